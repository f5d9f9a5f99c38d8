/-
  ShadowPages: a node's pages are those that were told last, all of them rise, each once, a nil set has none, the zero one is as a new one; for every list of pages, every choice of nodes, both sets; no condition beyond the row's.
-/
import Derived.Test.YtelenboncejdaaaGreatDoorShBytes
import Derived.Test.YtelenboncejdaaaGreatDoorTie
import Derived.Test.YtelenboncejdaaaGreatDoorCards
import Derived.SevenTiedAt
namespace Go.Proofs.YtelenboncejdaaaGreatDoor
open Go.RowKit Go.Sort
open Rt (Fx Stp)
set_option linter.unusedVariables false
set_option linter.unusedSimpArgs false

set_option maxRecDepth 100000 in
set_option maxHeartbeats 8000000 in
theorem shadowPages_walk (A : Option Addr) (n c : Nat) (L : List SL) (B : Option Addr) (m d : Nat) (L8 : List UInt8) (z : Bool) (w : World) (hh : Half w) (ha : ArgSL w A n c L) (ha8 : ArgB w B m d L8) :
    Calls Tryz.prog 7 #[.slice A n c, .slice B m d, .bool z] w fun e w' => e = .returned (.bool true) ∧ Below w.heap.size w w' := by
  have HH := Lib.hid hh
  have HA := Lib.hid ha
  have HA8 := Lib.hid ha8
  clear hh ha ha8
  go_enter Tryz.func7, Tryz.ntmps7
  go_wp2_with fail
  refine (shAwake_any w HH.out).mono ?_
  rintro e w1 ⟨rfl, hb1⟩
  have HB1 := Lib.hid hb1
  clear hb1
  by_cases hn : 40 < n
  · have hb40 : ((n : Int) > 40) := by omega
    go_wp2_with fail
    refine (shAwake_any w1 (HH.out.below HB1.out)).mono ?_
    rintro e w2 ⟨rfl, hb2⟩
    have HB2 := Lib.hid (bthen HB1.out hb2)
    clear hb2
    go_wp2
    go_ret
    exact ⟨rfl, HB2.out⟩
  · have hb40 : ¬ ((n : Int) > 40) := by omega
    have hn40 : n ≤ 40 := by omega
    clear hn
    by_cases hm : 60 < m
    · have hb60 : ((m : Int) > 60) := by omega
      go_wp2_with fail
      refine (shAwake_any w1 (HH.out.below HB1.out)).mono ?_
      rintro e w2 ⟨rfl, hb2⟩
      have HB2 := Lib.hid (bthen HB1.out hb2)
      clear hb2
      go_wp2
      go_ret
      exact ⟨rfl, HB2.out⟩
    · have hb60 : ¬ ((m : Int) > 60) := by omega
      have hm60 : m ≤ 60 := by omega
      clear hm
      go_wp2_with fail
      refine (newS_any w1).mono ?_
      rintro e w4 ⟨g, m0, rfl, hp4, hg4, hm4, _, hb4⟩
      have HP4 := Lib.hid hp4
      have HG4 := Lib.hid (And.intro (Nat.le_trans HB1.out.size hg4) (Nat.le_trans HB1.out.size hm4))
      have HB4 := Lib.hid (bthen HB1.out hb4)
      clear hp4 hg4 hm4 hb4 hb40 hb60
      cases z with
      | false =>
        obtain ⟨o, ho⟩ : ∃ o : Option Nat, o = some m0 := ⟨_, rfl⟩
        obtain ⟨wB, hwB⟩ : ∃ wB, wB = w4 := ⟨_, rfl⟩
        have HP : Hid (PB wB g o []) := Lib.hid (by rw [ho, hwB]; exact HP4.out)
        have HG : Hid (w.heap.size ≤ g ∧ ∀ m, o = some m → w.heap.size ≤ m) := Lib.hid ⟨HG4.out.1, fun m hm => by rw [ho] at hm; cases hm; exact HG4.out.2⟩
        have HBB : Hid (Below w.heap.size w wB) := Lib.hid (by rw [hwB]; exact HB4.out)
        go_wp2_with fail
        rw [← hwB]
        clear HP4 HG4 HB4 ho hwB
        obtain ⟨sb, hsb⟩ : ∃ sb, sb = wB.heap.size := ⟨_, rfl⟩
        obtain ⟨w5, hw5⟩ : ∃ w5, w5 = wB.alloc (.cells #[.slice none 0 0] 60) := ⟨_, rfl⟩
        have HL0 : Hid (Ld1 wB sb (.slice none 0 0) (.slice none 0 0) [] w5) := Lib.hid ⟨OwnL.nil_ _ _ _, ⟨by rw [hw5, hsb]; exact heap_alloc_new _ _, OwnL.nil_ _ _ _, fun x hx => (by cases hx)⟩, by rw [hw5]; exact (Below.refl _ _).alloc (Nat.le_refl _) _, List.Pairwise.nil⟩
        have HSB : Hid (wB.heap.size ≤ sb) := Lib.hid (by omega)
        rw [← hw5, ← hsb]
        clear hw5 hsb
        go_loopw [8, 35] (fun s8 s35 wr => ∃ (k : Nat) (v8 v9 : Value) (l : List (Nat × Nat)), k ≤ 4 ∧ s35 = .int .i64 k ∧ v8 = s8 ∧ Hid (l.length = k) ∧ Hid (Ld1 wB sb v8 v9 l wr)) (fun _ s35 _ => 4 - (intOf s35).toNat)
        case atStart => exact ⟨0, _, _, [], by omega, rfl, rfl, Lib.hid rfl, HL0⟩
        case round =>
          clear HL0
          obtain ⟨k, v8, v9, l, hk, rfl, rfl, HLN, HL⟩ := hrel
          by_cases hlt : k < 4
          · obtain ⟨e, he⟩ : ∃ e : Ent, e = ⟨⟨#[97]⟩, ⟨#[]⟩⟩ := ⟨_, rfl⟩
            obtain ⟨wx, hwx⟩ : ∃ wx, wx = wr.alloc (.cells #[.string ⟨#[97]⟩, .string ⟨#[]⟩] 87) := ⟨_, rfl⟩
            have hbx : Below wr.heap.size wr wx := by rw [hwx]; exact (Below.refl _ _).alloc (Nat.le_refl _) _
            have hes : Es wx (some ⟨wr.heap.size, 0, none⟩) [e] := fun _ => ⟨_, rfl, by rw [hwx]; simp, fun j u hj => by rw [hwx]; exact new_row wr _ _ j u (by rw [he] at hj; exact hj)⟩
            have hok : okLeaf [e] = true := by rw [he]; rfl
            have hsz : ∀ x ∈ [e], x.k.size ≤ 140737488351232 ∧ x.v.size ≤ 140737488351232 := fun x hx => by rw [List.mem_singleton.1 hx, he]; exact ⟨by decide, by decide⟩
            have HWX := Lib.hid hwx
            have HES := Lib.hid hes
            have HOK := Lib.hid hok
            have HSZ := Lib.hid hsz
            have HBX := Lib.hid hbx
            clear hwx hes hok hsz he hbx
            go_wp2_with fail
            rw [← HWX.out]
            refine (leaf_any (some ⟨wr.heap.size, 0, none⟩) 1 1 [e] wx HES.out rfl (by omega) HSZ.out).mono ?_
            rintro r w1 ⟨hb1, hpost⟩
            obtain ⟨_, b, N, rfl, hge, hN, hLR, hE, hea⟩ := hpost.resolve_right (fun ⟨h, _⟩ => by rw [HOK.out] at h; cases h)
            clear hpost
            have HB1 := Lib.hid (bthen HBX.out hb1)
            have HGE : Hid (wr.heap.size ≤ b) := Lib.hid (Nat.le_trans HBX.out.size hge)
            have hrow := HL.out.row.below HB1.out
            obtain ⟨A8, c8, hv8, hc8, _⟩ := hrow.form
            rw [List.length_map, HLN.out] at hv8 hc8
            subst hv8
            have hs1 : wB.heap.size ≤ w1.heap.size := Nat.le_trans HL.out.bel.size HB1.out.size
            have hba : Below w1.heap.size w1 (w1.alloc (.cells (pcP (some b)).toArray 25)) := (Below.refl _ _).alloc (Nat.le_refl _) _
            obtain ⟨v8', w2, hr2, ho2, hg2⟩ := run_append_one encP 83 25 83 _ _ ⟨_, Tryz.underlying83, rfl⟩ ptrInfo rfl (by omega) (by omega) (by omega) hrow (some b) (by rw [List.length_map, HLN.out]; omega) hs1
            obtain ⟨A9, c9, hv9, hc9, _⟩ := ho2.form
            have hb12 : Below wB.heap.size wB w2 := ((HL.out.bel.trans (HB1.out.mono HL.out.bel.size)).alloc hs1 _).grown hg2 (Nat.le_trans hs1 hba.size) (fun q hq => hrow.at_block q hq)
            have hp12 : Pst 25 w1 w2 := (Pst.of_below hba).trans (Pst.of_grown (hrow.below hba) hg2)
            have hm2 := hp12.memo (by decide) (by decide) (by decide) (by decide) (HL.out.memo.below HB1.out)
            have hN2 := hp12.node (by decide) hN
            have hE2 : Es w2 N.ea [e] := fun h0 => by
              obtain ⟨ad, ea, hl, hc⟩ := hE h0
              have hge2 := (hea ad ea).1
              refine ⟨ad, ea, Nat.lt_of_lt_of_le hl (Nat.le_trans hba.size hg2.size), fun j u hu => (World.cell?_of_block (w := w1) ?_).trans (hc j u hu)⟩
              rw [block_of_add]
              refine (hg2.block _ (Nat.lt_of_lt_of_le hl hba.size) fun e2 => ?_).trans (hba.block _ hl)
              have := HL.out.row.lt _ e2.symm
              have := HBX.out.size
              omega
            rw [← hv9] at *
            have HR2 := Lib.hid hr2
            have HO2 := Lib.hid ho2
            have HV9 := Lib.hid hv9
            have HB12 := Lib.hid hb12
            have HM2 := Lib.hid hm2
            have HN2 := Lib.hid hN2
            have HE2 := Lib.hid hE2
            have HLR := Lib.hid hLR
            have HNB : Hid (∀ x ∈ l, x.1 ≠ b) := Lib.hid (fun x hx e2 => by
              obtain ⟨⟨M, hM⟩, _⟩ := HL.out.memo.nodes x hx
              have := lt_of_block hM
              have := HGE.out
              omega)
            have HINJ := Lib.hid HL.out.inj
            clear hb1 hge hN hLR hE hea hrow hc8 hs1 hba hr2 ho2 hg2 hv9 hc9 hb12 hp12 hm2 hN2 hE2
            go_wp2_with (at_builtin; refine wpList_append_ran rfl (.tmp 43) (.tmp 45) 83 rfl _ _ _ _ rfl rfl HR2.out ?_)
            refine (told_leaf HM2.out (by rw [HLN.out]; omega) HB12.out.size HN2.out HE2.out HLR.out.en.symm (by rw [HLR.out.en]; simp) HLR.out.kn HNB.out).mono ?_
            rintro r3 w3 ⟨r, v9', rfl, hr, hm3, hst⟩
            have HL3 : Hid (Ld1 wB sb v8' v9' (l ++ [(b, r)]) w3) := Lib.hid (Ld1.next (by rw [List.map_append]; exact HO2.out) HB12.out HSB.out HM2.out HINJ.out HNB.out hr hm3 hst)
            clear hr hm3 hst HM2 HO2 HR2
            go_wp2
            exact ⟨⟨k + 1, v8', v9', l ++ [(b, r)], by omega, by go_num, rfl, Lib.hid (by rw [List.length_append, HLN.out]; rfl), HL3⟩, by simp [intOf]; omega⟩
          · have hk4 : k = 4 := by omega
            subst hk4
            obtain ⟨wL, hwL⟩ : ∃ x, x = wr := ⟨_, rfl⟩
            subst hwL
            obtain ⟨A8, c8, hv8, hc8, hl8⟩ := HL.out.row.form
            rw [List.length_map, HLN.out] at hv8
            subst hv8
            have HROW := Lib.hid HL.out.row
            have HMEMO := Lib.hid HL.out.memo
            have HALIKE := Lib.hid HL.out.alike
            have HFIRST : Hid (∀ (i : Nat) (x : Nat × Nat), l[i]? = some x → ∀ (j : Nat) (y : Nat × Nat), j < i → l[j]? = some y → y.1 ≠ x.1) := Lib.hid (fun i x hx => HL.out.first hx)
            have hpL := HP.out.below HL.out.bel
            obtain ⟨F, hF⟩ : ∃ F : Nat → Prop, F = fun i => i = g ∨ o = some i := ⟨_, rfl⟩
            have HFG : Hid (F g) := Lib.hid (by rw [hF]; exact .inl rfl)
            have HTY : Hid (∀ (i : Nat) (cs : Array Value) (t : TypeId), F i → wL.heap[i]? = some (.cells cs t (0, 0)) → t = 82) := Lib.hid (fun i cs t hf hcs => by
              rw [hF] at hf
              rcases hf with rfl | hf
              · have := hpL.box
                rw [hcs] at this
                cases this
                rfl
              · have := hpL.map i hf
                unfold MapIs at this
                rw [hcs] at this
                cases this)
            have HBK : Hid (∀ W, Keep F wL W → Below w.heap.size w W) := Lib.hid (fun W hk => Keep.base (HBB.out.trans (HL.out.bel.mono HBB.out.size)) (Nat.le_trans HBB.out.size HL.out.bel.size) (hk.mono fun i _ hf => by
              rw [hF] at hf
              rcases hf with rfl | hf
              · exact HG.out.1
              · exact HG.out.2 i hf))
            have HPS : Hid (∀ W, Keep F wL W → Pst 82 wL W) := Lib.hid (fun W hk => Pst.of_keep hk HTY.out)
            have HPG0 : Hid (Pg2 wL w.heap.size F g 0 l L o [] [] (.slice none 0 0) wL) := Lib.hid ⟨Keep.refl _ _, hpL, fun m hm => .inl (by rw [hF]; exact .inr hm), Cor.nil l, OwnL.nil_ _ _ _, fun x hx => (by cases hx), fun x hx => (by cases hx), fun x hx => (by cases hx), by simp, by simp⟩
            clear HL HTY hF hpL hl8 hc8 HBB HP
            go_wp2_with fail
            go_loopw [13, 52] (fun s13 s52 wr => ∃ (i : Nat) (o' : Option Nat) (R : List PR) (K : List KN) (v13 : Value), i ≤ m ∧ s52 = .int .i64 i ∧ v13 = s13 ∧ Hid (Pg2 wL w.heap.size F g i l L o' R K v13 wr)) (fun _ s52 _ => m - (intOf s52).toNat)
            case atStart => exact ⟨0, o, [], [], _, Nat.zero_le _, rfl, rfl, HPG0⟩
            case round =>
              clear HPG0
              obtain ⟨i, o', R, K, v13, hi, rfl, rfl, HPG⟩ := hrel
              by_cases him : i < m
              · by_cases hin : i < n
                · obtain ⟨w5, hw5⟩ : ∃ x, x = wr := ⟨_, rfl⟩
                  subst hw5
                  obtain ⟨ad, y, hA0, hy, hadl, hcy⟩ := HA.out.ls.at_ encSL (i := i) (by rw [HA.out.len]; exact hin)
                  subst hA0
                  obtain ⟨yA, yn, yc, yl⟩ := y
                  have hya := HA.out.ok _ (List.mem_of_getElem? hy)
                  simp only at hya
                  have qy : w.cell? (ad.add i) = some (.slice yA yn yc) := by
                    have := hcy 0 _ (by omega) rfl
                    rwa [add_of_add, Nat.mul_one, Nat.add_zero] at this
                  have HQY : Hid (∀ W, Below w.heap.size w W → W.cell? (ad.add i) = some (.slice yA yn yc)) := Lib.hid (fun W hW => (hW.cell (by rw [block_of_add]; exact hadl)).trans qy)
                  have HADL := Lib.hid hadl
                  have HYA := Lib.hid hya
                  have HYL : Hid (yl.length = yn) := Lib.hid hya.len
                  have HYM := Lib.hid (List.mem_of_getElem? hy)
                  have HBW := Lib.hid (HBK.out _ HPG.out.keep)
                  have qy5 := HQY.out _ HBW.out
                  clear hy hcy hya qy hadl
                  by_cases hyn : 100 < yn
                  · have hyI : ((yn : Int) > 100) := by omega
                    obtain ⟨A13, c13, hv13, hc13, hl13⟩ := HPG.out.row.form
                    have hks : ∀ k ≤ K.length, (allK (K.take k)).length ≤ 100000 := fun k hk => by
                      have h1 := allK_len (m := 100) (K.take k) fun x hx => HPG.out.fewK x (List.mem_of_mem_take hx)
                      have h2 := HPG.out.lenK
                      rw [List.length_take] at h1
                      omega
                    obtain ⟨nK, hnK⟩ : ∃ nK, K.length = nK := ⟨_, rfl⟩
                    rw [hnK] at hv13 hks
                    subst hv13
                    have HKS := Lib.hid hks
                    have HNK := Lib.hid hnK
                    have hnK60 : nK ≤ 60 := by have := HPG.out.lenK; omega
                    have HL13 := Lib.hid hl13
                    have HBWt := Lib.hid (HBK.out _ HPG.out.keep)
                    clear hc13 hl13 hks hnK
                    go_wp2_with fail
                    refine (all_any (M := Mof R) (.inr ⟨g, o', R, rfl, HPG.out.pb, rfl⟩) (by
                      have h1 := sumR_le (m := 100) R HPG.out.fewR
                      have h2 := HPG.out.lenR
                      omega)).mono ?_
                    rintro r y1 ⟨va, la, rfl, hoa, hra, hma, hb1⟩
                    have HLA : Hid (la = allK K) := Lib.hid (HPG.out.cor.same hra hma)
                    obtain ⟨Aa, ca, rfl, _, hla⟩ := hoa.form
                    have HY1 := Lib.hid hb1
                    have HOA := Lib.hid hla
                    obtain ⟨na, hna⟩ : ∃ na, la.length = na := ⟨_, rfl⟩
                    rw [hna]
                    have HNA := Lib.hid hna
                    have HNA2 : Hid (na ≤ 100000) := Lib.hid (by
                      rw [← hna, HLA.out]
                      have := HKS.out nK (Nat.le_refl _)
                      rwa [List.take_of_length_le (by rw [HNK.out]; exact Nat.le_refl _)] at this)
                    clear hoa hra hma hb1 hla hna
                    go_wp2_with fail
                    refine (refAll_any (HPG.out.fromL.arg ((HA.out.below HBWt.out).below HY1.out) (HL13.out.below HY1.out) HNK.out) (by omega) (fun k hk => HKS.out k hk) (fun x hx => Nat.le_trans (HPG.out.fewK x hx) (by omega))).mono ?_
                    rintro r y2 ⟨vb, rfl, hob, hb2⟩
                    obtain ⟨Ab, cb, rfl, _, hlb⟩ := hob.form
                    obtain ⟨nb, hnb⟩ : ∃ nb, (allK K).length = nb := ⟨_, rfl⟩
                    rw [hnb]
                    have HNB := Lib.hid hnb
                    have HNB2 : Hid (nb ≤ 100000) := Lib.hid (by rw [← hnb, ← HLA.out, HNA.out]; exact HNA2.out)
                    have HY2 := Lib.hid (bthen HY1.out hb2)
                    have HOA2 := Lib.hid (HOA.out.below hb2)
                    have HOB := Lib.hid hlb
                    clear hob hb2 hlb hnb
                    go_wp2_with fail
                    refine (shSame_any HOA2.out HNA.out HOB.out HNB.out (by have := HNA2.out; omega) (by have := HNB2.out; omega)).mono ?_
                    rintro r y3 ⟨rfl, hb3⟩
                    rw [decide_eq_true HLA.out]
                    have HY3 := Lib.hid (bthen HY2.out hb3)
                    clear hb3
                    go_wp2_with fail
                    refine (all_nil y3).mono ?_
                    rintro r y4 ⟨vc, lc, rfl, hoc, hrc, hmc, hb4⟩
                    have hlc : lc = [] := List.eq_nil_iff_forall_not_mem.2 fun x hx => by
                      obtain ⟨y, hy, _⟩ := (hmc x).1 hx
                      cases hy
                    rw [hlc] at hoc
                    obtain ⟨Ac, cc, rfl, _, _⟩ := hoc.form
                    have HY4 := Lib.hid (bthen HY3.out hb4)
                    clear hoc hrc hmc hb4 hlc
                    go_wp2_with fail
                    refine (of_niln (HPG.out.pb.below HY4.out)).mono ?_
                    rintro r y5 ⟨vd, rfl, hod, hb5⟩
                    obtain ⟨Ad, cd, rfl, _, _⟩ := hod.form
                    have HY5 := Lib.hid (bthen HY4.out hb5)
                    clear hod hb5
                    go_wp2
                    go_ret
                    exact ⟨rfl, HBWt.out.trans (HY5.out.mono HBWt.out.size)⟩
                  · have hyI : ¬ ((yn : Int) > 100) := by omega
                    obtain ⟨a8, x8, hB0, hx8, hl8b, hc8b⟩ := (HA8.out.rd.below HBW.out).dvAt (i := i) (by rw [HA8.out.len]; exact him)
                    subst hB0
                    obtain ⟨j, hj⟩ : ∃ j, j = x8.toNat % 4 := ⟨_, rfl⟩
                    obtain ⟨z8, hz8⟩ : ∃ z8, z8 = x8.toNat := ⟨_, rfl⟩
                    rw [← hz8] at hj hc8b
                    have hj4 : j < 4 := by omega
                    have hym : ((z8 : Int) % 4) = (j : Int) := by omega
                    have hyt : (z8 : Int).tmod 4 = (j : Int) := by rw [Int.tmod_eq_emod_of_nonneg (by omega)]; exact hym
                    have hps := HPS.out _ HPG.out.keep
                    obtain ⟨a9, pj, hA9, hpj, hl9, hc9⟩ := (row_ls (hps.own HROW.out (by decide))).at_ encP (i := j) (by rw [List.length_map, HLN.out]; exact hj4)
                    subst hA9
                    rw [List.getElem?_map] at hpj
                    obtain ⟨⟨b, r⟩, hxj, hpe⟩ := Option.map_eq_some_iff.1 hpj
                    subst hpe
                    have q9 : w5.cell? (a9.add j) = some (.pointer (some ⟨b, 0, none⟩)) := by
                      have := hc9 0 _ (by omega) rfl
                      rwa [add_of_add, Nat.mul_one, Nat.add_zero] at this
                    have HXJ := Lib.hid hxj
                    have HXM := Lib.hid (List.mem_of_getElem? hxj)
                    obtain ⟨⟨N, hN⟩, u0, v0, hR0⟩ := HMEMO.out.nodes _ (List.mem_of_getElem? hxj)
                    have HNL := Lib.hid hN
                    have HMW : Hid (∀ W, Keep F wL W → Memo W wB.heap.size sb v9 l) := Lib.hid (fun W hk => (HPS.out W hk).memo (by decide) (by decide) (by decide) (by decide) HMEMO.out)
                    have HNW : Hid (∀ W, Keep F wL W → NodeAt W b N) := Lib.hid (fun W hk => (HPS.out W hk).node (by decide) HNL.out)
                    have HYLS : Hid (∀ W, Below w.heap.size w W → Ls icell W yA yl) := Lib.hid (fun W hW => HYA.out.ls.below hW)
                    have HAG : Hid (∀ a, yA = some a → 0 < yl.length → a.block ≠ g) := Lib.hid (fun a ha h0 e => by
                      obtain ⟨a', e', hlt, _⟩ := HYA.out.ls h0
                      rw [ha] at e'
                      cases e'
                      have := HG.out.1
                      omega)
                    obtain ⟨A13, c13, hv13, hc13, hl13⟩ := HPG.out.row.form
                    obtain ⟨nK, hnK⟩ : ∃ nK, K.length = nK := ⟨_, rfl⟩
                    rw [hnK] at hv13
                    subst hv13
                    have HNK := Lib.hid hnK
                    have hnK60 : nK ≤ 60 := by have := HPG.out.lenK; omega
                    clear hx8 hl8b hj hz8 hps hl9 hc9 hpj hxj hN hR0 hc13 hl13 hnK
                    go_wp2_with fail
                    refine (addAny HPG.out.pb HPG.out.keep HPG.out.out HFG.out (HNW.out _ HPG.out.keep) (HYLS.out _ HBW.out) HYL.out (by omega) HAG.out).mono ?_
                    rintro e w6 ⟨rfl, o2, v2, hp6, hk6, ho6, hps6⟩
                    have HP6 := Lib.hid hp6
                    have HK6 := Lib.hid hk6
                    have HO6 := Lib.hid ho6
                    have HR6 := Lib.hid (hps6.own HPG.out.row (by decide))
                    have HBW6 := Lib.hid (HBK.out _ hk6)
                    have qy6 := HQY.out _ HBW6.out
                    clear hp6 hk6 ho6 hps6 qy5 q9 hc8b hym hyt
                    go_wp2_with fail
                    refine (add_niln w6 _ _).mono ?_
                    rintro e w7 ⟨rfl, rfl⟩
                    go_wp2_with fail
                    refine (add_nilp w7 _ _).mono ?_
                    rintro e w8 ⟨rfl, rfl⟩
                    go_wp2_with fail
                    go_loopw [16, 97] (fun s16 s97 wx => ∃ (q : Nat) (v16 : Value), q ≤ nK ∧ s97 = .int .i64 q ∧ v16 = s16 ∧ Hid (OwnL pcKn 76 2 wx w8.heap.size v16 (lessK (K.take q) r)) ∧ Below w8.heap.size w8 wx) (fun _ s97 _ => nK - (intOf s97).toNat)
                    case atStart => exact ⟨0, _, Nat.zero_le _, rfl, rfl, Lib.hid (OwnL.nil_ _ _ _), Below.refl _ _⟩
                    case round =>
                      clear qy6
                      obtain ⟨q, v16, hq, rfl, rfl, HO, hbw⟩ := hrel
                      obtain ⟨W, hW⟩ : ∃ W, W = wr.drew := ⟨_, rfl⟩
                      have hdW : Below wr.heap.size wr W := by rw [hW]; exact ⟨rfl, rfl, rfl, Nat.le_refl _, fun k _ => rfl⟩
                      have HBX := Lib.hid (bthen hbw hdW)
                      have HKX : Hid (Keep F wL W) := Lib.hid (HK6.out.trans (Keep.of_below HBX.out))
                      have HOX := Lib.hid (HO.out.below hdW)
                      have HW := Lib.hid hW
                      have HMX := Lib.hid (HMW.out _ HKX.out)
                      by_cases hqn : q < nK
                      · obtain ⟨a13, x, hA13, hx, hlx, hcx⟩ := ((row_ls HR6.out).below HBX.out).at_ encKn (i := q) (by rw [HNK.out]; exact hqn)
                        subst hA13
                        obtain ⟨p, hp, hxp⟩ := HPG.out.cor.inK x (List.mem_of_getElem? hx)
                        have q0 := hcx 0 (.pointer (x.p.map fun b => ⟨b, 0, none⟩)) (by omega) rfl
                        have q1 : W.cell? ⟨(a13.add (q * 2)).block, (a13.add (q * 2)).off + 1, none⟩ = some (.slice x.A x.l.length x.c) := hcx 1 (.slice x.A x.l.length x.c) (by omega) rfl
                        rw [add_of_add, hxp] at q0
                        simp only [Nat.add_zero, Option.map_some] at q0
                        obtain ⟨xn, hxn⟩ : ∃ xn, x.l.length = xn := ⟨_, rfl⟩
                        rw [hxn] at q1
                        have HXN := Lib.hid hxn
                        have hq0 : ∀ p' : Dc.Past [] W, p'.val.cell? (a13.add (q * 2)) = some (.pointer (some ⟨p.2, 0, none⟩)) := fun p' => (p'.ok.cell (by rw [block_of_add]; exact hlx) (by simp)).trans q0
                        obtain ⟨_, u1, v1, hR1⟩ := HMX.out.nodes p hp
                        obtain ⟨_, u2, v2', hR2⟩ := HMX.out.nodes _ HXM.out
                        have hne := neq_rn hR1 hR2
                        have HSN := Lib.hid (lessK_snoc hx r)
                        have HXP := Lib.hid hxp
                        clear hbw hdW hW HO hcx hx hp hR1 hR2 hxn hlx hxp
                        by_cases hpr : p.2 = r
                        · rw [decide_eq_true hpr] at hne
                          have HS2 : Hid (lessK (K.take (q + 1)) r = lessK (K.take q) r) := Lib.hid (by rw [HSN.out, if_pos (by rw [HXP.out, hpr]), List.append_nil])
                          clear hpr
                          go_wp2_with fail
                          refine Dc.wp_region_segs 7 [] [([0, 1, 2, 3, 4, 5], 6), ([], 7)] [] (by kernel_rfl) (by kernel_rfl) (by kernel_rfl) (by kernel_rfl) (by kernel_rfl) (by intro c a d v w h; cases d <;> exact h) ?_
                          rw [← HW.out]
                          refine Dc.wpSegs_more ?_
                          simp only [Dc.pick, List.getElem?_cons_zero, List.getElem?_cons_succ]
                          repeat (first | go_big_quiet_step (fail) | quiet_step (fail))
                          refine wpQuiet_nil ?_
                          refine Dc.wpOp_heavy rfl (by rfl) (fun Q hQ => ?_)
                          go_simp
                          refine (told_old HMX.out (by rw [HLN.out]; omega) (HNW.out _ HKX.out) HXJ.out (HFIRST.out _ _ HXJ.out)).mono ?_
                          rintro e w9 ⟨rfl, rfl⟩
                          refine hQ _ _ (fun _ => Dc.But.refl _ _) ?_
                          clear hQ Q hq0
                          refine Dc.wpSegs_more ?_
                          simp only [Dc.pick]
                          refine wpQuiet_nil ?_
                          refine Dc.wpOp_heavy rfl (by rfl) (fun Q hQ => ?_)
                          go_simp
                          refine hQ _ _ (fun h => absurd rfl h) ?_
                          clear hQ Q
                          refine Dc.wpSegs_last ?_
                          simp only [Dc.pick]
                          refine wpQuiet_nil ?_
                          go_wp2
                          exact ⟨⟨q + 1, _, by omega, by go_num, rfl, by rw [HS2.out]; exact HOX, HBX.out⟩, by simp [intOf]; omega⟩
                        · rw [decide_eq_false hpr] at hne
                          have HS2 : Hid (lessK (K.take (q + 1)) r = lessK (K.take q) r ++ [x]) := Lib.hid (by rw [HSN.out, if_neg (by rw [HXP.out]; intro e; exact hpr (by simpa using e))])
                          have hq16 : (lessK (K.take q) r).length ≤ 60 := by
                            have := lessK_len (K.take q) r
                            rw [List.length_take] at this
                            omega
                          obtain ⟨A16, c16, hv16, _, _⟩ := HOX.out.form
                          obtain ⟨v16', w10, hr10, ho10, hg10⟩ := run_append_one encKn 62 76 62 _ _ ⟨_, Tryz.underlying62, rfl⟩ knInfo rfl (by omega) (by omega) (by omega) HOX.out x (by omega) HBX.out.size
                          have hba : Below W.heap.size W (W.alloc (.cells (pcKn x).toArray 76)) := (Below.refl _ _).alloc (Nat.le_refl _) _
                          have hb10 : Below w8.heap.size w8 w10 := (HBX.out.alloc HBX.out.size _).grown hg10 (Nat.le_trans HBX.out.size hba.size) (fun q' hq' => HOX.out.at_block q' hq')
                          rw [show (pcKn x).toArray = #[.pointer (some ⟨p.2, 0, none⟩), .slice x.A xn x.c] by simp [pcKn, HXP.out, HXN.out]] at hr10
                          have HR10 := Lib.hid hr10
                          have HO10 := Lib.hid ho10
                          have HB10 := Lib.hid hb10
                          obtain ⟨n16, hn16⟩ : ∃ n16, n16 = (lessK (K.take q) r).length := ⟨_, rfl⟩
                          rw [← hn16] at hv16
                          subst hv16
                          clear hpr hr10 ho10 hg10 hba hb10 hn16 hq16
                          go_wp2_with fail
                          refine Dc.wp_region_segs 7 [] [([0, 1, 2, 3, 4, 5], 6), ([], 7)] [] (by kernel_rfl) (by kernel_rfl) (by kernel_rfl) (by kernel_rfl) (by kernel_rfl) (by intro c a d v w h; cases d <;> exact h) ?_
                          rw [← HW.out]
                          refine Dc.wpSegs_more ?_
                          simp only [Dc.pick, List.getElem?_cons_zero, List.getElem?_cons_succ]
                          repeat (first | go_big_quiet_step (fail) | quiet_step (fail))
                          refine wpQuiet_nil ?_
                          refine Dc.wpOp_heavy rfl (by rfl) (fun Q hQ => ?_)
                          go_simp
                          refine (told_old HMX.out (by rw [HLN.out]; omega) (HNW.out _ HKX.out) HXJ.out (HFIRST.out _ _ HXJ.out)).mono ?_
                          rintro e w9 ⟨rfl, rfl⟩
                          refine hQ _ _ (fun _ => Dc.But.refl _ _) ?_
                          clear hQ Q hq0
                          refine Dc.wpSegs_more ?_
                          simp only [Dc.pick]
                          refine wpQuiet_nil ?_
                          refine Dc.wpOp_heavy rfl (by rfl) (fun Q hQ => ?_)
                          go_simp
                          refine hQ _ _ (fun h => absurd rfl h) ?_
                          clear hQ Q
                          refine Dc.wpSegs_last ?_
                          simp only [Dc.pick]
                          refine wpQuiet_nil ?_
                          go_wp2_with (at_builtin; refine wpList_append_ran rfl (.tmp 108) (.tmp 113) 62 rfl _ _ _ _ rfl rfl HR10.out ?_)
                          exact ⟨⟨q + 1, _, by omega, by go_num, rfl, by rw [HS2.out]; exact HO10, HB10.out⟩, by simp [intOf]; omega⟩
                      · have hqe : q = nK := by omega
                        subst hqe
                        have HOF : Hid (OwnL pcKn 76 2 W w8.heap.size v16 (lessK K r)) := Lib.hid (by
                          have := HOX.out
                          rwa [List.take_of_length_le (by rw [HNK.out]; exact Nat.le_refl _)] at this)
                        have hln : (lessK K r).length ≤ 60 := by
                          have := lessK_len K r
                          have := HNK.out
                          omega
                        obtain ⟨kn, hkn⟩ : ∃ kn : KN, kn = ⟨some r, yA, yc, yl⟩ := ⟨_, rfl⟩
                        obtain ⟨A16, c16, hv16, _, _⟩ := HOF.out.form
                        obtain ⟨v13, w10, hr10, ho10, hg10⟩ := run_append_one encKn 62 76 62 _ _ ⟨_, Tryz.underlying62, rfl⟩ knInfo rfl (by omega) (by omega) (by omega) HOF.out kn (by omega) HBX.out.size
                        have hba : Below W.heap.size W (W.alloc (.cells (pcKn kn).toArray 76)) := (Below.refl _ _).alloc (Nat.le_refl _) _
                        have hb10 : Below w8.heap.size w8 w10 := (HBX.out.alloc HBX.out.size _).grown hg10 (Nat.le_trans HBX.out.size hba.size) (fun q' hq' => HOF.out.at_block q' hq')
                        have hpk : (pcKn kn).toArray = #[.pointer (some ⟨r, 0, none⟩), .slice yA yn yc] := by simp [pcKn, hkn, HYL.out]
                        rw [hpk] at hr10 hba
                        obtain ⟨A23, c23, hv23, _, _⟩ := ho10.form
                        obtain ⟨n23, hn23⟩ : ∃ n23, n23 = (lessK K r ++ [kn]).length := ⟨_, rfl⟩
                        rw [← hn23] at hv23
                        have hadl : ad.block < W.heap.size := Nat.lt_of_lt_of_le HADL.out (Nat.le_trans HBW6.out.size HBX.out.size)
                        have hcP : ∀ p' : Dc.Past [] W, p'.val.cell? (ad.add i) = some (.slice yA yn yc) := fun p' => (p'.ok.cell (by rw [block_of_add]; exact hadl) (by simp)).trans (HQY.out _ (HBK.out _ HKX.out))
                        obtain ⟨W4, hW4⟩ : ∃ W4, W4 = w10.drew := ⟨_, rfl⟩
                        have hd4 : Below w10.heap.size w10 W4 := by rw [hW4]; exact ⟨rfl, rfl, rfl, Nat.le_refl _, fun k _ => rfl⟩
                        have hb4 := bthen hb10 hd4
                        have hk4 : Keep F wL W4 := HK6.out.trans (Keep.of_below hb4)
                        have hbk4 := HBK.out _ hk4
                        have hcP4 : ∀ p' : Dc.Past [] W4, p'.val.cell? (ad.add i) = some (.slice yA yn yc) := fun p' => (p'.ok.cell (by rw [block_of_add]; exact Nat.lt_of_lt_of_le HADL.out hbk4.size) (by simp)).trans (HQY.out _ hbk4)
                        have hof := ofS_any (pv := .pointer (some ⟨g, 0, none⟩)) (M := Mof (addR R b v2 yl)) (.inr ⟨g, o2, _, rfl, HP6.out.below hb4, rfl⟩) (HNW.out _ hk4) (by rw [pgs_addR, if_pos rfl, HYL.out]; omega)
                        rw [pgs_addR, if_pos rfl] at hof
                        have HR10 := Lib.hid hr10
                        have HO10 := Lib.hid (ho10.below hd4)
                        have HB4 := Lib.hid hb4
                        have HBK4 := Lib.hid hbk4
                        have HBA := Lib.hid hba
                        have HW4 := Lib.hid hW4
                        have HKN := Lib.hid hkn
                        have HOFF := Lib.hid hof
                        have HCP4 := Lib.hid hcP4
                        have HV23 := Lib.hid hv23
                        obtain ⟨n16, hn16⟩ : ∃ n16, n16 = (lessK K r).length := ⟨_, rfl⟩
                        rw [← hn16] at hv16
                        subst hv16
                        clear hbw hdW hW HO hln hr10 ho10 hg10 hba hb10 hpk hn23 hadl hW4 hd4 hb4 hk4 hbk4 hcP4 hof hkn hn16 hv23
                        go_wp2_with fail
                        refine Dc.wp_region_segs 9 [] [([0, 1, 3, 4, 5, 6], 2), ([7], 8), ([], 9)] [10] (by kernel_rfl) (by kernel_rfl) (by kernel_rfl) (by kernel_rfl) (by kernel_rfl) (by intro c a d v w h; cases d <;> exact h) ?_
                        rw [← HW.out]
                        refine Dc.wpSegs_more ?_
                        simp only [Dc.pick, List.getElem?_cons_zero, List.getElem?_cons_succ]
                        repeat (first | go_big_quiet_step (fail) | quiet_step (fail))
                        refine wpQuiet_nil ?_
                        refine Dc.wpOp_heavy rfl (by rfl) (fun Q hQ => ?_)
                        go_simp
                        refine (told_old HMX.out (by rw [HLN.out]; omega) (HNW.out _ HKX.out) HXJ.out (HFIRST.out _ _ HXJ.out)).mono ?_
                        rintro e w9 ⟨rfl, rfl⟩
                        refine hQ _ _ (fun _ => Dc.But.refl _ _) ?_
                        clear hQ Q hcP
                        refine Dc.wpSegs_more ?_
                        simp only [Dc.pick, List.getElem?_cons_zero, List.getElem?_cons_succ]
                        repeat (first | go_big_quiet_step (fail) | quiet_step (fail))
                        refine wpQuiet_nil ?_
                        refine Dc.wpOp_heavy rfl (by rfl) (fun Q hQ => ?_)
                        go_simp
                        refine hQ _ _ (fun _ => Dc.But.of_below HBA.out) ?_
                        clear hQ Q
                        refine Dc.wpSegs_more ?_
                        simp only [Dc.pick]
                        refine wpQuiet_nil ?_
                        refine Dc.wpOp_heavy rfl (by rfl) (fun Q hQ => ?_)
                        refine oper_append_ran (.tmp 116) (.tmp 124) 62 rfl _ _ _ _ rfl rfl HR10.out ?_
                        refine hQ _ _ (fun h => absurd rfl h) ?_
                        clear hQ Q
                        rw [HV23.out]
                        refine Dc.wpSegs_last ?_
                        simp only [Dc.pick, List.getElem?_cons_zero, List.getElem?_cons_succ]
                        repeat (first | go_big_quiet_step (fail) | quiet_step (fail))
                        refine wpQuiet_nil ?_
                        have hcP4 := HCP4.out
                        go_wp2_with fail
                        refine Dc.wp_region_segs 15 [] [([0, 1, 3, 4, 5, 6], 2), ([], 7), ([8, 9, 10, 11], 12)] [13, 14, 15] (by kernel_rfl) (by kernel_rfl) (by kernel_rfl) (by kernel_rfl) (by kernel_rfl) (by intro c a d v w h; cases d <;> exact h) ?_
                        rw [← HW4.out]
                        refine Dc.wpSegs_more ?_
                        simp only [Dc.pick, List.getElem?_cons_zero, List.getElem?_cons_succ]
                        repeat (first | go_big_quiet_step (fail) | quiet_step (fail))
                        refine wpQuiet_nil ?_
                        refine Dc.wpOp_heavy rfl (by rfl) (fun Q hQ => ?_)
                        go_simp
                        refine HOFF.out.mono ?_
                        rintro e w11 ⟨vo, rfl, hoo, hb11⟩
                        obtain ⟨Ao, co, hvo, _, hlo⟩ := hoo.form
                        rw [HYL.out] at hvo
                        subst hvo
                        refine hQ _ _ (fun _ => Dc.But.of_below hb11) ?_
                        clear hQ Q hcP4
                        have HLO := Lib.hid hlo
                        have HB11 := Lib.hid hb11
                        clear hoo hb11 hlo
                        refine Dc.wpSegs_more ?_
                        simp only [Dc.pick]
                        refine wpQuiet_nil ?_
                        refine Dc.wpOp_heavy rfl (by rfl) (fun Q hQ => ?_)
                        go_simp
                        refine (shSame_any HLO.out HYL.out (HYLS.out _ (HBK4.out.trans (HB11.out.mono HBK4.out.size))) HYL.out (by omega) (by omega)).mono ?_
                        rintro e w12 ⟨rfl, hb12⟩
                        rw [decide_eq_true rfl]
                        refine hQ _ _ (fun _ => Dc.But.of_below hb12) ?_
                        clear hQ Q
                        have HB12 := Lib.hid (bthen HB4.out (bthen HB11.out hb12))
                        have HD12 := Lib.hid (bthen HB11.out hb12)
                        clear hb12
                        refine Dc.wpSegs_more ?_
                        simp only [Dc.pick, List.getElem?_cons_zero, List.getElem?_cons_succ]
                        repeat (first | go_big_quiet_step (fail) | quiet_step (fail))
                        refine wpQuiet_nil ?_
                        refine Dc.wpOp_heavy rfl (by rfl) (fun Q hQ => ?_)
                        go_simp
                        refine (of_nil w12 _).mono ?_
                        rintro e w13 ⟨rfl, rfl⟩
                        refine hQ _ _ (fun _ => Dc.But.refl _ _) ?_
                        clear hQ Q
                        refine Dc.wpSegs_last ?_
                        simp only [Dc.pick, List.getElem?_cons_zero, List.getElem?_cons_succ]
                        repeat (first | go_big_quiet_step (fail) | quiet_step (fail))
                        refine wpQuiet_nil ?_
                        have HFIN : Hid (Pg2 wL w.heap.size F g (i + 1) l L o2 (addR R b v2 yl) (lessK K r ++ [kn]) (.slice A23 n23 c23) w13) := Lib.hid (by
                          have hrow := (HO10.out.below HD12.out).mono (b' := w.heap.size) HBW6.out.size
                          rw [HV23.out] at hrow
                          refine ⟨HK6.out.trans (Keep.of_below HB12.out), HP6.out.below HB12.out, HO6.out, ?_, hrow, ?_, ?_, ?_, ?_, ?_⟩
                          · rw [HKN.out]
                            exact HPG.out.cor.step HXM.out HALIKE.out v2 yA yc yl
                          · intro x hx
                            rcases List.mem_append.1 hx with hx | hx
                            · exact HPG.out.fromL x (List.mem_filter.1 hx).1
                            · rw [List.mem_singleton.1 hx, HKN.out]
                              exact ⟨_, HYM.out, rfl, rfl⟩
                          · intro x hx
                            rcases addR_mem hx with hx | hx
                            · exact HPG.out.fewR x hx
                            · rw [hx]
                              show yl.length ≤ 100
                              rw [HYL.out]
                              omega
                          · intro x hx
                            rcases List.mem_append.1 hx with hx | hx
                            · exact HPG.out.fewK x (List.mem_filter.1 hx).1
                            · rw [List.mem_singleton.1 hx, HKN.out]
                              show yl.length ≤ 100
                              rw [HYL.out]
                              omega
                          · have h1 := addR_len R b v2 yl
                            have h2 := HPG.out.lenR
                            omega
                          · have h1 := lessK_len K r
                            have h2 := HPG.out.lenK
                            rw [List.length_append, List.length_singleton]
                            omega)
                        go_wp2
                        refine ⟨?_, by simp [intOf]; omega⟩
                        repeat apply Exists.intro
                        exact ⟨⟨i + 1, _, _, _, _, by omega, by go_num, rfl, HFIN⟩, rfl⟩
                · have hgeI : ((i : Int) ≥ n) := by omega
                  obtain ⟨A13, c13, hv13, hc13, hl13⟩ := HPG.out.row.form
                  have hks : ∀ k ≤ K.length, (allK (K.take k)).length ≤ 100000 := fun k hk => by
                    have h1 := allK_len (m := 100) (K.take k) fun x hx => HPG.out.fewK x (List.mem_of_mem_take hx)
                    have h2 := HPG.out.lenK
                    rw [List.length_take] at h1
                    omega
                  obtain ⟨nK, hnK⟩ : ∃ nK, K.length = nK := ⟨_, rfl⟩
                  rw [hnK] at hv13 hks
                  subst hv13
                  have HKS := Lib.hid hks
                  have HNK := Lib.hid hnK
                  have hnK60 : nK ≤ 60 := by have := HPG.out.lenK; omega
                  have HL13 := Lib.hid hl13
                  have HBWt := Lib.hid (HBK.out _ HPG.out.keep)
                  clear hc13 hl13 hks hnK
                  go_wp2_with fail
                  refine (all_any (M := Mof R) (.inr ⟨g, o', R, rfl, HPG.out.pb, rfl⟩) (by
                    have h1 := sumR_le (m := 100) R HPG.out.fewR
                    have h2 := HPG.out.lenR
                    omega)).mono ?_
                  rintro r y1 ⟨va, la, rfl, hoa, hra, hma, hb1⟩
                  have HLA : Hid (la = allK K) := Lib.hid (HPG.out.cor.same hra hma)
                  obtain ⟨Aa, ca, rfl, _, hla⟩ := hoa.form
                  have HY1 := Lib.hid hb1
                  have HOA := Lib.hid hla
                  obtain ⟨na, hna⟩ : ∃ na, la.length = na := ⟨_, rfl⟩
                  rw [hna]
                  have HNA := Lib.hid hna
                  have HNA2 : Hid (na ≤ 100000) := Lib.hid (by
                    rw [← hna, HLA.out]
                    have := HKS.out nK (Nat.le_refl _)
                    rwa [List.take_of_length_le (by rw [HNK.out]; exact Nat.le_refl _)] at this)
                  clear hoa hra hma hb1 hla hna
                  go_wp2_with fail
                  refine (refAll_any (HPG.out.fromL.arg ((HA.out.below HBWt.out).below HY1.out) (HL13.out.below HY1.out) HNK.out) (by omega) (fun k hk => HKS.out k hk) (fun x hx => Nat.le_trans (HPG.out.fewK x hx) (by omega))).mono ?_
                  rintro r y2 ⟨vb, rfl, hob, hb2⟩
                  obtain ⟨Ab, cb, rfl, _, hlb⟩ := hob.form
                  obtain ⟨nb, hnb⟩ : ∃ nb, (allK K).length = nb := ⟨_, rfl⟩
                  rw [hnb]
                  have HNB := Lib.hid hnb
                  have HNB2 : Hid (nb ≤ 100000) := Lib.hid (by rw [← hnb, ← HLA.out, HNA.out]; exact HNA2.out)
                  have HY2 := Lib.hid (bthen HY1.out hb2)
                  have HOA2 := Lib.hid (HOA.out.below hb2)
                  have HOB := Lib.hid hlb
                  clear hob hb2 hlb hnb
                  go_wp2_with fail
                  refine (shSame_any HOA2.out HNA.out HOB.out HNB.out (by have := HNA2.out; omega) (by have := HNB2.out; omega)).mono ?_
                  rintro r y3 ⟨rfl, hb3⟩
                  rw [decide_eq_true HLA.out]
                  have HY3 := Lib.hid (bthen HY2.out hb3)
                  clear hb3
                  go_wp2_with fail
                  refine (all_nil y3).mono ?_
                  rintro r y4 ⟨vc, lc, rfl, hoc, hrc, hmc, hb4⟩
                  have hlc : lc = [] := List.eq_nil_iff_forall_not_mem.2 fun x hx => by
                    obtain ⟨y, hy, _⟩ := (hmc x).1 hx
                    cases hy
                  rw [hlc] at hoc
                  obtain ⟨Ac, cc, rfl, _, _⟩ := hoc.form
                  have HY4 := Lib.hid (bthen HY3.out hb4)
                  clear hoc hrc hmc hb4 hlc
                  go_wp2_with fail
                  refine (of_niln (HPG.out.pb.below HY4.out)).mono ?_
                  rintro r y5 ⟨vd, rfl, hod, hb5⟩
                  obtain ⟨Ad, cd, rfl, _, _⟩ := hod.form
                  have HY5 := Lib.hid (bthen HY4.out hb5)
                  clear hod hb5
                  go_wp2
                  go_ret
                  exact ⟨rfl, HBWt.out.trans (HY5.out.mono HBWt.out.size)⟩
              · have him2 : ¬ ((i : Int) < m) := by omega
                obtain ⟨A13, c13, hv13, hc13, hl13⟩ := HPG.out.row.form
                have hks : ∀ k ≤ K.length, (allK (K.take k)).length ≤ 100000 := fun k hk => by
                  have h1 := allK_len (m := 100) (K.take k) fun x hx => HPG.out.fewK x (List.mem_of_mem_take hx)
                  have h2 := HPG.out.lenK
                  rw [List.length_take] at h1
                  omega
                obtain ⟨nK, hnK⟩ : ∃ nK, K.length = nK := ⟨_, rfl⟩
                rw [hnK] at hv13 hks
                subst hv13
                have HKS := Lib.hid hks
                have HNK := Lib.hid hnK
                have hnK60 : nK ≤ 60 := by have := HPG.out.lenK; omega
                have HL13 := Lib.hid hl13
                have HBWt := Lib.hid (HBK.out _ HPG.out.keep)
                clear hc13 hl13 hks hnK
                go_wp2_with fail
                refine (all_any (M := Mof R) (.inr ⟨g, o', R, rfl, HPG.out.pb, rfl⟩) (by
                  have h1 := sumR_le (m := 100) R HPG.out.fewR
                  have h2 := HPG.out.lenR
                  omega)).mono ?_
                rintro r y1 ⟨va, la, rfl, hoa, hra, hma, hb1⟩
                have HLA : Hid (la = allK K) := Lib.hid (HPG.out.cor.same hra hma)
                obtain ⟨Aa, ca, rfl, _, hla⟩ := hoa.form
                have HY1 := Lib.hid hb1
                have HOA := Lib.hid hla
                obtain ⟨na, hna⟩ : ∃ na, la.length = na := ⟨_, rfl⟩
                rw [hna]
                have HNA := Lib.hid hna
                have HNA2 : Hid (na ≤ 100000) := Lib.hid (by
                  rw [← hna, HLA.out]
                  have := HKS.out nK (Nat.le_refl _)
                  rwa [List.take_of_length_le (by rw [HNK.out]; exact Nat.le_refl _)] at this)
                clear hoa hra hma hb1 hla hna
                go_wp2_with fail
                refine (refAll_any (HPG.out.fromL.arg ((HA.out.below HBWt.out).below HY1.out) (HL13.out.below HY1.out) HNK.out) (by omega) (fun k hk => HKS.out k hk) (fun x hx => Nat.le_trans (HPG.out.fewK x hx) (by omega))).mono ?_
                rintro r y2 ⟨vb, rfl, hob, hb2⟩
                obtain ⟨Ab, cb, rfl, _, hlb⟩ := hob.form
                obtain ⟨nb, hnb⟩ : ∃ nb, (allK K).length = nb := ⟨_, rfl⟩
                rw [hnb]
                have HNB := Lib.hid hnb
                have HNB2 : Hid (nb ≤ 100000) := Lib.hid (by rw [← hnb, ← HLA.out, HNA.out]; exact HNA2.out)
                have HY2 := Lib.hid (bthen HY1.out hb2)
                have HOA2 := Lib.hid (HOA.out.below hb2)
                have HOB := Lib.hid hlb
                clear hob hb2 hlb hnb
                go_wp2_with fail
                refine (shSame_any HOA2.out HNA.out HOB.out HNB.out (by have := HNA2.out; omega) (by have := HNB2.out; omega)).mono ?_
                rintro r y3 ⟨rfl, hb3⟩
                rw [decide_eq_true HLA.out]
                have HY3 := Lib.hid (bthen HY2.out hb3)
                clear hb3
                go_wp2_with fail
                refine (all_nil y3).mono ?_
                rintro r y4 ⟨vc, lc, rfl, hoc, hrc, hmc, hb4⟩
                have hlc : lc = [] := List.eq_nil_iff_forall_not_mem.2 fun x hx => by
                  obtain ⟨y, hy, _⟩ := (hmc x).1 hx
                  cases hy
                rw [hlc] at hoc
                obtain ⟨Ac, cc, rfl, _, _⟩ := hoc.form
                have HY4 := Lib.hid (bthen HY3.out hb4)
                clear hoc hrc hmc hb4 hlc
                go_wp2_with fail
                refine (of_niln (HPG.out.pb.below HY4.out)).mono ?_
                rintro r y5 ⟨vd, rfl, hod, hb5⟩
                obtain ⟨Ad, cd, rfl, _, _⟩ := hod.form
                have HY5 := Lib.hid (bthen HY4.out hb5)
                clear hod hb5
                go_wp2
                go_ret
                exact ⟨rfl, HBWt.out.trans (HY5.out.mono HBWt.out.size)⟩
      | true =>
        obtain ⟨o, ho⟩ : ∃ o : Option Nat, o = none := ⟨_, rfl⟩
        obtain ⟨wB, hwB⟩ : ∃ wB, wB = w4.alloc (.cells #[.map none] 82) := ⟨_, rfl⟩
        obtain ⟨g, hg⟩ : ∃ g, g = w4.heap.size := ⟨_, rfl⟩
        have HP : Hid (PB wB g o []) := Lib.hid (by rw [ho, hwB, hg]; exact ⟨heap_alloc_new _ _, fun _ => rfl, fun m hm => (by cases hm), fun r hr => (by cases hr)⟩)
        have HG : Hid (w.heap.size ≤ g ∧ ∀ m, o = some m → w.heap.size ≤ m) := Lib.hid ⟨by rw [hg]; exact HB4.out.size, fun m hm => by rw [ho] at hm; cases hm⟩
        have HBB : Hid (Below w.heap.size w wB) := Lib.hid (by rw [hwB]; exact HB4.out.alloc HB4.out.size _)
        have HS1 : Hid (w4.heap.size + 1 = wB.heap.size) := Lib.hid (by rw [hwB]; simp)
        go_wp2_with fail
        rw [← hwB, HS1.out, ← hg]
        clear HP4 HG4 HB4 ho hwB hg HS1
        obtain ⟨sb, hsb⟩ : ∃ sb, sb = wB.heap.size := ⟨_, rfl⟩
        obtain ⟨w5, hw5⟩ : ∃ w5, w5 = wB.alloc (.cells #[.slice none 0 0] 60) := ⟨_, rfl⟩
        have HL0 : Hid (Ld1 wB sb (.slice none 0 0) (.slice none 0 0) [] w5) := Lib.hid ⟨OwnL.nil_ _ _ _, ⟨by rw [hw5, hsb]; exact heap_alloc_new _ _, OwnL.nil_ _ _ _, fun x hx => (by cases hx)⟩, by rw [hw5]; exact (Below.refl _ _).alloc (Nat.le_refl _) _, List.Pairwise.nil⟩
        have HSB : Hid (wB.heap.size ≤ sb) := Lib.hid (by omega)
        rw [← hw5, ← hsb]
        clear hw5 hsb
        go_loopw [8, 35] (fun s8 s35 wr => ∃ (k : Nat) (v8 v9 : Value) (l : List (Nat × Nat)), k ≤ 4 ∧ s35 = .int .i64 k ∧ v8 = s8 ∧ Hid (l.length = k) ∧ Hid (Ld1 wB sb v8 v9 l wr)) (fun _ s35 _ => 4 - (intOf s35).toNat)
        case atStart => exact ⟨0, _, _, [], by omega, rfl, rfl, Lib.hid rfl, HL0⟩
        case round =>
          clear HL0
          obtain ⟨k, v8, v9, l, hk, rfl, rfl, HLN, HL⟩ := hrel
          by_cases hlt : k < 4
          · obtain ⟨e, he⟩ : ∃ e : Ent, e = ⟨⟨#[97]⟩, ⟨#[]⟩⟩ := ⟨_, rfl⟩
            obtain ⟨wx, hwx⟩ : ∃ wx, wx = wr.alloc (.cells #[.string ⟨#[97]⟩, .string ⟨#[]⟩] 87) := ⟨_, rfl⟩
            have hbx : Below wr.heap.size wr wx := by rw [hwx]; exact (Below.refl _ _).alloc (Nat.le_refl _) _
            have hes : Es wx (some ⟨wr.heap.size, 0, none⟩) [e] := fun _ => ⟨_, rfl, by rw [hwx]; simp, fun j u hj => by rw [hwx]; exact new_row wr _ _ j u (by rw [he] at hj; exact hj)⟩
            have hok : okLeaf [e] = true := by rw [he]; rfl
            have hsz : ∀ x ∈ [e], x.k.size ≤ 140737488351232 ∧ x.v.size ≤ 140737488351232 := fun x hx => by rw [List.mem_singleton.1 hx, he]; exact ⟨by decide, by decide⟩
            have HWX := Lib.hid hwx
            have HES := Lib.hid hes
            have HOK := Lib.hid hok
            have HSZ := Lib.hid hsz
            have HBX := Lib.hid hbx
            clear hwx hes hok hsz he hbx
            go_wp2_with fail
            rw [← HWX.out]
            refine (leaf_any (some ⟨wr.heap.size, 0, none⟩) 1 1 [e] wx HES.out rfl (by omega) HSZ.out).mono ?_
            rintro r w1 ⟨hb1, hpost⟩
            obtain ⟨_, b, N, rfl, hge, hN, hLR, hE, hea⟩ := hpost.resolve_right (fun ⟨h, _⟩ => by rw [HOK.out] at h; cases h)
            clear hpost
            have HB1 := Lib.hid (bthen HBX.out hb1)
            have HGE : Hid (wr.heap.size ≤ b) := Lib.hid (Nat.le_trans HBX.out.size hge)
            have hrow := HL.out.row.below HB1.out
            obtain ⟨A8, c8, hv8, hc8, _⟩ := hrow.form
            rw [List.length_map, HLN.out] at hv8 hc8
            subst hv8
            have hs1 : wB.heap.size ≤ w1.heap.size := Nat.le_trans HL.out.bel.size HB1.out.size
            have hba : Below w1.heap.size w1 (w1.alloc (.cells (pcP (some b)).toArray 25)) := (Below.refl _ _).alloc (Nat.le_refl _) _
            obtain ⟨v8', w2, hr2, ho2, hg2⟩ := run_append_one encP 83 25 83 _ _ ⟨_, Tryz.underlying83, rfl⟩ ptrInfo rfl (by omega) (by omega) (by omega) hrow (some b) (by rw [List.length_map, HLN.out]; omega) hs1
            obtain ⟨A9, c9, hv9, hc9, _⟩ := ho2.form
            have hb12 : Below wB.heap.size wB w2 := ((HL.out.bel.trans (HB1.out.mono HL.out.bel.size)).alloc hs1 _).grown hg2 (Nat.le_trans hs1 hba.size) (fun q hq => hrow.at_block q hq)
            have hp12 : Pst 25 w1 w2 := (Pst.of_below hba).trans (Pst.of_grown (hrow.below hba) hg2)
            have hm2 := hp12.memo (by decide) (by decide) (by decide) (by decide) (HL.out.memo.below HB1.out)
            have hN2 := hp12.node (by decide) hN
            have hE2 : Es w2 N.ea [e] := fun h0 => by
              obtain ⟨ad, ea, hl, hc⟩ := hE h0
              have hge2 := (hea ad ea).1
              refine ⟨ad, ea, Nat.lt_of_lt_of_le hl (Nat.le_trans hba.size hg2.size), fun j u hu => (World.cell?_of_block (w := w1) ?_).trans (hc j u hu)⟩
              rw [block_of_add]
              refine (hg2.block _ (Nat.lt_of_lt_of_le hl hba.size) fun e2 => ?_).trans (hba.block _ hl)
              have := HL.out.row.lt _ e2.symm
              have := HBX.out.size
              omega
            rw [← hv9] at *
            have HR2 := Lib.hid hr2
            have HO2 := Lib.hid ho2
            have HV9 := Lib.hid hv9
            have HB12 := Lib.hid hb12
            have HM2 := Lib.hid hm2
            have HN2 := Lib.hid hN2
            have HE2 := Lib.hid hE2
            have HLR := Lib.hid hLR
            have HNB : Hid (∀ x ∈ l, x.1 ≠ b) := Lib.hid (fun x hx e2 => by
              obtain ⟨⟨M, hM⟩, _⟩ := HL.out.memo.nodes x hx
              have := lt_of_block hM
              have := HGE.out
              omega)
            have HINJ := Lib.hid HL.out.inj
            clear hb1 hge hN hLR hE hea hrow hc8 hs1 hba hr2 ho2 hg2 hv9 hc9 hb12 hp12 hm2 hN2 hE2
            go_wp2_with (at_builtin; refine wpList_append_ran rfl (.tmp 43) (.tmp 45) 83 rfl _ _ _ _ rfl rfl HR2.out ?_)
            refine (told_leaf HM2.out (by rw [HLN.out]; omega) HB12.out.size HN2.out HE2.out HLR.out.en.symm (by rw [HLR.out.en]; simp) HLR.out.kn HNB.out).mono ?_
            rintro r3 w3 ⟨r, v9', rfl, hr, hm3, hst⟩
            have HL3 : Hid (Ld1 wB sb v8' v9' (l ++ [(b, r)]) w3) := Lib.hid (Ld1.next (by rw [List.map_append]; exact HO2.out) HB12.out HSB.out HM2.out HINJ.out HNB.out hr hm3 hst)
            clear hr hm3 hst HM2 HO2 HR2
            go_wp2
            exact ⟨⟨k + 1, v8', v9', l ++ [(b, r)], by omega, by go_num, rfl, Lib.hid (by rw [List.length_append, HLN.out]; rfl), HL3⟩, by simp [intOf]; omega⟩
          · have hk4 : k = 4 := by omega
            subst hk4
            obtain ⟨wL, hwL⟩ : ∃ x, x = wr := ⟨_, rfl⟩
            subst hwL
            obtain ⟨A8, c8, hv8, hc8, hl8⟩ := HL.out.row.form
            rw [List.length_map, HLN.out] at hv8
            subst hv8
            have HROW := Lib.hid HL.out.row
            have HMEMO := Lib.hid HL.out.memo
            have HALIKE := Lib.hid HL.out.alike
            have HFIRST : Hid (∀ (i : Nat) (x : Nat × Nat), l[i]? = some x → ∀ (j : Nat) (y : Nat × Nat), j < i → l[j]? = some y → y.1 ≠ x.1) := Lib.hid (fun i x hx => HL.out.first hx)
            have hpL := HP.out.below HL.out.bel
            obtain ⟨F, hF⟩ : ∃ F : Nat → Prop, F = fun i => i = g ∨ o = some i := ⟨_, rfl⟩
            have HFG : Hid (F g) := Lib.hid (by rw [hF]; exact .inl rfl)
            have HTY : Hid (∀ (i : Nat) (cs : Array Value) (t : TypeId), F i → wL.heap[i]? = some (.cells cs t (0, 0)) → t = 82) := Lib.hid (fun i cs t hf hcs => by
              rw [hF] at hf
              rcases hf with rfl | hf
              · have := hpL.box
                rw [hcs] at this
                cases this
                rfl
              · have := hpL.map i hf
                unfold MapIs at this
                rw [hcs] at this
                cases this)
            have HBK : Hid (∀ W, Keep F wL W → Below w.heap.size w W) := Lib.hid (fun W hk => Keep.base (HBB.out.trans (HL.out.bel.mono HBB.out.size)) (Nat.le_trans HBB.out.size HL.out.bel.size) (hk.mono fun i _ hf => by
              rw [hF] at hf
              rcases hf with rfl | hf
              · exact HG.out.1
              · exact HG.out.2 i hf))
            have HPS : Hid (∀ W, Keep F wL W → Pst 82 wL W) := Lib.hid (fun W hk => Pst.of_keep hk HTY.out)
            have HPG0 : Hid (Pg2 wL w.heap.size F g 0 l L o [] [] (.slice none 0 0) wL) := Lib.hid ⟨Keep.refl _ _, hpL, fun m hm => .inl (by rw [hF]; exact .inr hm), Cor.nil l, OwnL.nil_ _ _ _, fun x hx => (by cases hx), fun x hx => (by cases hx), fun x hx => (by cases hx), by simp, by simp⟩
            clear HL HTY hF hpL hl8 hc8 HBB HP
            go_wp2_with fail
            go_loopw [13, 52] (fun s13 s52 wr => ∃ (i : Nat) (o' : Option Nat) (R : List PR) (K : List KN) (v13 : Value), i ≤ m ∧ s52 = .int .i64 i ∧ v13 = s13 ∧ Hid (Pg2 wL w.heap.size F g i l L o' R K v13 wr)) (fun _ s52 _ => m - (intOf s52).toNat)
            case atStart => exact ⟨0, o, [], [], _, Nat.zero_le _, rfl, rfl, HPG0⟩
            case round =>
              clear HPG0
              obtain ⟨i, o', R, K, v13, hi, rfl, rfl, HPG⟩ := hrel
              by_cases him : i < m
              · by_cases hin : i < n
                · obtain ⟨w5, hw5⟩ : ∃ x, x = wr := ⟨_, rfl⟩
                  subst hw5
                  obtain ⟨ad, y, hA0, hy, hadl, hcy⟩ := HA.out.ls.at_ encSL (i := i) (by rw [HA.out.len]; exact hin)
                  subst hA0
                  obtain ⟨yA, yn, yc, yl⟩ := y
                  have hya := HA.out.ok _ (List.mem_of_getElem? hy)
                  simp only at hya
                  have qy : w.cell? (ad.add i) = some (.slice yA yn yc) := by
                    have := hcy 0 _ (by omega) rfl
                    rwa [add_of_add, Nat.mul_one, Nat.add_zero] at this
                  have HQY : Hid (∀ W, Below w.heap.size w W → W.cell? (ad.add i) = some (.slice yA yn yc)) := Lib.hid (fun W hW => (hW.cell (by rw [block_of_add]; exact hadl)).trans qy)
                  have HADL := Lib.hid hadl
                  have HYA := Lib.hid hya
                  have HYL : Hid (yl.length = yn) := Lib.hid hya.len
                  have HYM := Lib.hid (List.mem_of_getElem? hy)
                  have HBW := Lib.hid (HBK.out _ HPG.out.keep)
                  have qy5 := HQY.out _ HBW.out
                  clear hy hcy hya qy hadl
                  by_cases hyn : 100 < yn
                  · have hyI : ((yn : Int) > 100) := by omega
                    obtain ⟨A13, c13, hv13, hc13, hl13⟩ := HPG.out.row.form
                    have hks : ∀ k ≤ K.length, (allK (K.take k)).length ≤ 100000 := fun k hk => by
                      have h1 := allK_len (m := 100) (K.take k) fun x hx => HPG.out.fewK x (List.mem_of_mem_take hx)
                      have h2 := HPG.out.lenK
                      rw [List.length_take] at h1
                      omega
                    obtain ⟨nK, hnK⟩ : ∃ nK, K.length = nK := ⟨_, rfl⟩
                    rw [hnK] at hv13 hks
                    subst hv13
                    have HKS := Lib.hid hks
                    have HNK := Lib.hid hnK
                    have hnK60 : nK ≤ 60 := by have := HPG.out.lenK; omega
                    have HL13 := Lib.hid hl13
                    have HBWt := Lib.hid (HBK.out _ HPG.out.keep)
                    clear hc13 hl13 hks hnK
                    go_wp2_with fail
                    refine (all_any (M := Mof R) (.inr ⟨g, o', R, rfl, HPG.out.pb, rfl⟩) (by
                      have h1 := sumR_le (m := 100) R HPG.out.fewR
                      have h2 := HPG.out.lenR
                      omega)).mono ?_
                    rintro r y1 ⟨va, la, rfl, hoa, hra, hma, hb1⟩
                    have HLA : Hid (la = allK K) := Lib.hid (HPG.out.cor.same hra hma)
                    obtain ⟨Aa, ca, rfl, _, hla⟩ := hoa.form
                    have HY1 := Lib.hid hb1
                    have HOA := Lib.hid hla
                    obtain ⟨na, hna⟩ : ∃ na, la.length = na := ⟨_, rfl⟩
                    rw [hna]
                    have HNA := Lib.hid hna
                    have HNA2 : Hid (na ≤ 100000) := Lib.hid (by
                      rw [← hna, HLA.out]
                      have := HKS.out nK (Nat.le_refl _)
                      rwa [List.take_of_length_le (by rw [HNK.out]; exact Nat.le_refl _)] at this)
                    clear hoa hra hma hb1 hla hna
                    go_wp2_with fail
                    refine (refAll_any (HPG.out.fromL.arg ((HA.out.below HBWt.out).below HY1.out) (HL13.out.below HY1.out) HNK.out) (by omega) (fun k hk => HKS.out k hk) (fun x hx => Nat.le_trans (HPG.out.fewK x hx) (by omega))).mono ?_
                    rintro r y2 ⟨vb, rfl, hob, hb2⟩
                    obtain ⟨Ab, cb, rfl, _, hlb⟩ := hob.form
                    obtain ⟨nb, hnb⟩ : ∃ nb, (allK K).length = nb := ⟨_, rfl⟩
                    rw [hnb]
                    have HNB := Lib.hid hnb
                    have HNB2 : Hid (nb ≤ 100000) := Lib.hid (by rw [← hnb, ← HLA.out, HNA.out]; exact HNA2.out)
                    have HY2 := Lib.hid (bthen HY1.out hb2)
                    have HOA2 := Lib.hid (HOA.out.below hb2)
                    have HOB := Lib.hid hlb
                    clear hob hb2 hlb hnb
                    go_wp2_with fail
                    refine (shSame_any HOA2.out HNA.out HOB.out HNB.out (by have := HNA2.out; omega) (by have := HNB2.out; omega)).mono ?_
                    rintro r y3 ⟨rfl, hb3⟩
                    rw [decide_eq_true HLA.out]
                    have HY3 := Lib.hid (bthen HY2.out hb3)
                    clear hb3
                    go_wp2_with fail
                    refine (all_nil y3).mono ?_
                    rintro r y4 ⟨vc, lc, rfl, hoc, hrc, hmc, hb4⟩
                    have hlc : lc = [] := List.eq_nil_iff_forall_not_mem.2 fun x hx => by
                      obtain ⟨y, hy, _⟩ := (hmc x).1 hx
                      cases hy
                    rw [hlc] at hoc
                    obtain ⟨Ac, cc, rfl, _, _⟩ := hoc.form
                    have HY4 := Lib.hid (bthen HY3.out hb4)
                    clear hoc hrc hmc hb4 hlc
                    go_wp2_with fail
                    refine (of_niln (HPG.out.pb.below HY4.out)).mono ?_
                    rintro r y5 ⟨vd, rfl, hod, hb5⟩
                    obtain ⟨Ad, cd, rfl, _, _⟩ := hod.form
                    have HY5 := Lib.hid (bthen HY4.out hb5)
                    clear hod hb5
                    go_wp2
                    go_ret
                    exact ⟨rfl, HBWt.out.trans (HY5.out.mono HBWt.out.size)⟩
                  · have hyI : ¬ ((yn : Int) > 100) := by omega
                    obtain ⟨a8, x8, hB0, hx8, hl8b, hc8b⟩ := (HA8.out.rd.below HBW.out).dvAt (i := i) (by rw [HA8.out.len]; exact him)
                    subst hB0
                    obtain ⟨j, hj⟩ : ∃ j, j = x8.toNat % 4 := ⟨_, rfl⟩
                    obtain ⟨z8, hz8⟩ : ∃ z8, z8 = x8.toNat := ⟨_, rfl⟩
                    rw [← hz8] at hj hc8b
                    have hj4 : j < 4 := by omega
                    have hym : ((z8 : Int) % 4) = (j : Int) := by omega
                    have hyt : (z8 : Int).tmod 4 = (j : Int) := by rw [Int.tmod_eq_emod_of_nonneg (by omega)]; exact hym
                    have hps := HPS.out _ HPG.out.keep
                    obtain ⟨a9, pj, hA9, hpj, hl9, hc9⟩ := (row_ls (hps.own HROW.out (by decide))).at_ encP (i := j) (by rw [List.length_map, HLN.out]; exact hj4)
                    subst hA9
                    rw [List.getElem?_map] at hpj
                    obtain ⟨⟨b, r⟩, hxj, hpe⟩ := Option.map_eq_some_iff.1 hpj
                    subst hpe
                    have q9 : w5.cell? (a9.add j) = some (.pointer (some ⟨b, 0, none⟩)) := by
                      have := hc9 0 _ (by omega) rfl
                      rwa [add_of_add, Nat.mul_one, Nat.add_zero] at this
                    have HXJ := Lib.hid hxj
                    have HXM := Lib.hid (List.mem_of_getElem? hxj)
                    obtain ⟨⟨N, hN⟩, u0, v0, hR0⟩ := HMEMO.out.nodes _ (List.mem_of_getElem? hxj)
                    have HNL := Lib.hid hN
                    have HMW : Hid (∀ W, Keep F wL W → Memo W wB.heap.size sb v9 l) := Lib.hid (fun W hk => (HPS.out W hk).memo (by decide) (by decide) (by decide) (by decide) HMEMO.out)
                    have HNW : Hid (∀ W, Keep F wL W → NodeAt W b N) := Lib.hid (fun W hk => (HPS.out W hk).node (by decide) HNL.out)
                    have HYLS : Hid (∀ W, Below w.heap.size w W → Ls icell W yA yl) := Lib.hid (fun W hW => HYA.out.ls.below hW)
                    have HAG : Hid (∀ a, yA = some a → 0 < yl.length → a.block ≠ g) := Lib.hid (fun a ha h0 e => by
                      obtain ⟨a', e', hlt, _⟩ := HYA.out.ls h0
                      rw [ha] at e'
                      cases e'
                      have := HG.out.1
                      omega)
                    obtain ⟨A13, c13, hv13, hc13, hl13⟩ := HPG.out.row.form
                    obtain ⟨nK, hnK⟩ : ∃ nK, K.length = nK := ⟨_, rfl⟩
                    rw [hnK] at hv13
                    subst hv13
                    have HNK := Lib.hid hnK
                    have hnK60 : nK ≤ 60 := by have := HPG.out.lenK; omega
                    clear hx8 hl8b hj hz8 hps hl9 hc9 hpj hxj hN hR0 hc13 hl13 hnK
                    go_wp2_with fail
                    refine (addAny HPG.out.pb HPG.out.keep HPG.out.out HFG.out (HNW.out _ HPG.out.keep) (HYLS.out _ HBW.out) HYL.out (by omega) HAG.out).mono ?_
                    rintro e w6 ⟨rfl, o2, v2, hp6, hk6, ho6, hps6⟩
                    have HP6 := Lib.hid hp6
                    have HK6 := Lib.hid hk6
                    have HO6 := Lib.hid ho6
                    have HR6 := Lib.hid (hps6.own HPG.out.row (by decide))
                    have HBW6 := Lib.hid (HBK.out _ hk6)
                    have qy6 := HQY.out _ HBW6.out
                    clear hp6 hk6 ho6 hps6 qy5 q9 hc8b hym hyt
                    go_wp2_with fail
                    refine (add_niln w6 _ _).mono ?_
                    rintro e w7 ⟨rfl, rfl⟩
                    go_wp2_with fail
                    refine (add_nilp w7 _ _).mono ?_
                    rintro e w8 ⟨rfl, rfl⟩
                    go_wp2_with fail
                    go_loopw [16, 97] (fun s16 s97 wx => ∃ (q : Nat) (v16 : Value), q ≤ nK ∧ s97 = .int .i64 q ∧ v16 = s16 ∧ Hid (OwnL pcKn 76 2 wx w8.heap.size v16 (lessK (K.take q) r)) ∧ Below w8.heap.size w8 wx) (fun _ s97 _ => nK - (intOf s97).toNat)
                    case atStart => exact ⟨0, _, Nat.zero_le _, rfl, rfl, Lib.hid (OwnL.nil_ _ _ _), Below.refl _ _⟩
                    case round =>
                      clear qy6
                      obtain ⟨q, v16, hq, rfl, rfl, HO, hbw⟩ := hrel
                      obtain ⟨W, hW⟩ : ∃ W, W = wr.drew := ⟨_, rfl⟩
                      have hdW : Below wr.heap.size wr W := by rw [hW]; exact ⟨rfl, rfl, rfl, Nat.le_refl _, fun k _ => rfl⟩
                      have HBX := Lib.hid (bthen hbw hdW)
                      have HKX : Hid (Keep F wL W) := Lib.hid (HK6.out.trans (Keep.of_below HBX.out))
                      have HOX := Lib.hid (HO.out.below hdW)
                      have HW := Lib.hid hW
                      have HMX := Lib.hid (HMW.out _ HKX.out)
                      by_cases hqn : q < nK
                      · obtain ⟨a13, x, hA13, hx, hlx, hcx⟩ := ((row_ls HR6.out).below HBX.out).at_ encKn (i := q) (by rw [HNK.out]; exact hqn)
                        subst hA13
                        obtain ⟨p, hp, hxp⟩ := HPG.out.cor.inK x (List.mem_of_getElem? hx)
                        have q0 := hcx 0 (.pointer (x.p.map fun b => ⟨b, 0, none⟩)) (by omega) rfl
                        have q1 : W.cell? ⟨(a13.add (q * 2)).block, (a13.add (q * 2)).off + 1, none⟩ = some (.slice x.A x.l.length x.c) := hcx 1 (.slice x.A x.l.length x.c) (by omega) rfl
                        rw [add_of_add, hxp] at q0
                        simp only [Nat.add_zero, Option.map_some] at q0
                        obtain ⟨xn, hxn⟩ : ∃ xn, x.l.length = xn := ⟨_, rfl⟩
                        rw [hxn] at q1
                        have HXN := Lib.hid hxn
                        have hq0 : ∀ p' : Dc.Past [] W, p'.val.cell? (a13.add (q * 2)) = some (.pointer (some ⟨p.2, 0, none⟩)) := fun p' => (p'.ok.cell (by rw [block_of_add]; exact hlx) (by simp)).trans q0
                        obtain ⟨_, u1, v1, hR1⟩ := HMX.out.nodes p hp
                        obtain ⟨_, u2, v2', hR2⟩ := HMX.out.nodes _ HXM.out
                        have hne := neq_rn hR1 hR2
                        have HSN := Lib.hid (lessK_snoc hx r)
                        have HXP := Lib.hid hxp
                        clear hbw hdW hW HO hcx hx hp hR1 hR2 hxn hlx hxp
                        by_cases hpr : p.2 = r
                        · rw [decide_eq_true hpr] at hne
                          have HS2 : Hid (lessK (K.take (q + 1)) r = lessK (K.take q) r) := Lib.hid (by rw [HSN.out, if_pos (by rw [HXP.out, hpr]), List.append_nil])
                          clear hpr
                          go_wp2_with fail
                          refine Dc.wp_region_segs 7 [] [([0, 1, 2, 3, 4, 5], 6), ([], 7)] [] (by kernel_rfl) (by kernel_rfl) (by kernel_rfl) (by kernel_rfl) (by kernel_rfl) (by intro c a d v w h; cases d <;> exact h) ?_
                          rw [← HW.out]
                          refine Dc.wpSegs_more ?_
                          simp only [Dc.pick, List.getElem?_cons_zero, List.getElem?_cons_succ]
                          repeat (first | go_big_quiet_step (fail) | quiet_step (fail))
                          refine wpQuiet_nil ?_
                          refine Dc.wpOp_heavy rfl (by rfl) (fun Q hQ => ?_)
                          go_simp
                          refine (told_old HMX.out (by rw [HLN.out]; omega) (HNW.out _ HKX.out) HXJ.out (HFIRST.out _ _ HXJ.out)).mono ?_
                          rintro e w9 ⟨rfl, rfl⟩
                          refine hQ _ _ (fun _ => Dc.But.refl _ _) ?_
                          clear hQ Q hq0
                          refine Dc.wpSegs_more ?_
                          simp only [Dc.pick]
                          refine wpQuiet_nil ?_
                          refine Dc.wpOp_heavy rfl (by rfl) (fun Q hQ => ?_)
                          go_simp
                          refine hQ _ _ (fun h => absurd rfl h) ?_
                          clear hQ Q
                          refine Dc.wpSegs_last ?_
                          simp only [Dc.pick]
                          refine wpQuiet_nil ?_
                          go_wp2
                          exact ⟨⟨q + 1, _, by omega, by go_num, rfl, by rw [HS2.out]; exact HOX, HBX.out⟩, by simp [intOf]; omega⟩
                        · rw [decide_eq_false hpr] at hne
                          have HS2 : Hid (lessK (K.take (q + 1)) r = lessK (K.take q) r ++ [x]) := Lib.hid (by rw [HSN.out, if_neg (by rw [HXP.out]; intro e; exact hpr (by simpa using e))])
                          have hq16 : (lessK (K.take q) r).length ≤ 60 := by
                            have := lessK_len (K.take q) r
                            rw [List.length_take] at this
                            omega
                          obtain ⟨A16, c16, hv16, _, _⟩ := HOX.out.form
                          obtain ⟨v16', w10, hr10, ho10, hg10⟩ := run_append_one encKn 62 76 62 _ _ ⟨_, Tryz.underlying62, rfl⟩ knInfo rfl (by omega) (by omega) (by omega) HOX.out x (by omega) HBX.out.size
                          have hba : Below W.heap.size W (W.alloc (.cells (pcKn x).toArray 76)) := (Below.refl _ _).alloc (Nat.le_refl _) _
                          have hb10 : Below w8.heap.size w8 w10 := (HBX.out.alloc HBX.out.size _).grown hg10 (Nat.le_trans HBX.out.size hba.size) (fun q' hq' => HOX.out.at_block q' hq')
                          rw [show (pcKn x).toArray = #[.pointer (some ⟨p.2, 0, none⟩), .slice x.A xn x.c] by simp [pcKn, HXP.out, HXN.out]] at hr10
                          have HR10 := Lib.hid hr10
                          have HO10 := Lib.hid ho10
                          have HB10 := Lib.hid hb10
                          obtain ⟨n16, hn16⟩ : ∃ n16, n16 = (lessK (K.take q) r).length := ⟨_, rfl⟩
                          rw [← hn16] at hv16
                          subst hv16
                          clear hpr hr10 ho10 hg10 hba hb10 hn16 hq16
                          go_wp2_with fail
                          refine Dc.wp_region_segs 7 [] [([0, 1, 2, 3, 4, 5], 6), ([], 7)] [] (by kernel_rfl) (by kernel_rfl) (by kernel_rfl) (by kernel_rfl) (by kernel_rfl) (by intro c a d v w h; cases d <;> exact h) ?_
                          rw [← HW.out]
                          refine Dc.wpSegs_more ?_
                          simp only [Dc.pick, List.getElem?_cons_zero, List.getElem?_cons_succ]
                          repeat (first | go_big_quiet_step (fail) | quiet_step (fail))
                          refine wpQuiet_nil ?_
                          refine Dc.wpOp_heavy rfl (by rfl) (fun Q hQ => ?_)
                          go_simp
                          refine (told_old HMX.out (by rw [HLN.out]; omega) (HNW.out _ HKX.out) HXJ.out (HFIRST.out _ _ HXJ.out)).mono ?_
                          rintro e w9 ⟨rfl, rfl⟩
                          refine hQ _ _ (fun _ => Dc.But.refl _ _) ?_
                          clear hQ Q hq0
                          refine Dc.wpSegs_more ?_
                          simp only [Dc.pick]
                          refine wpQuiet_nil ?_
                          refine Dc.wpOp_heavy rfl (by rfl) (fun Q hQ => ?_)
                          go_simp
                          refine hQ _ _ (fun h => absurd rfl h) ?_
                          clear hQ Q
                          refine Dc.wpSegs_last ?_
                          simp only [Dc.pick]
                          refine wpQuiet_nil ?_
                          go_wp2_with (at_builtin; refine wpList_append_ran rfl (.tmp 108) (.tmp 113) 62 rfl _ _ _ _ rfl rfl HR10.out ?_)
                          exact ⟨⟨q + 1, _, by omega, by go_num, rfl, by rw [HS2.out]; exact HO10, HB10.out⟩, by simp [intOf]; omega⟩
                      · have hqe : q = nK := by omega
                        subst hqe
                        have HOF : Hid (OwnL pcKn 76 2 W w8.heap.size v16 (lessK K r)) := Lib.hid (by
                          have := HOX.out
                          rwa [List.take_of_length_le (by rw [HNK.out]; exact Nat.le_refl _)] at this)
                        have hln : (lessK K r).length ≤ 60 := by
                          have := lessK_len K r
                          have := HNK.out
                          omega
                        obtain ⟨kn, hkn⟩ : ∃ kn : KN, kn = ⟨some r, yA, yc, yl⟩ := ⟨_, rfl⟩
                        obtain ⟨A16, c16, hv16, _, _⟩ := HOF.out.form
                        obtain ⟨v13, w10, hr10, ho10, hg10⟩ := run_append_one encKn 62 76 62 _ _ ⟨_, Tryz.underlying62, rfl⟩ knInfo rfl (by omega) (by omega) (by omega) HOF.out kn (by omega) HBX.out.size
                        have hba : Below W.heap.size W (W.alloc (.cells (pcKn kn).toArray 76)) := (Below.refl _ _).alloc (Nat.le_refl _) _
                        have hb10 : Below w8.heap.size w8 w10 := (HBX.out.alloc HBX.out.size _).grown hg10 (Nat.le_trans HBX.out.size hba.size) (fun q' hq' => HOF.out.at_block q' hq')
                        have hpk : (pcKn kn).toArray = #[.pointer (some ⟨r, 0, none⟩), .slice yA yn yc] := by simp [pcKn, hkn, HYL.out]
                        rw [hpk] at hr10 hba
                        obtain ⟨A23, c23, hv23, _, _⟩ := ho10.form
                        obtain ⟨n23, hn23⟩ : ∃ n23, n23 = (lessK K r ++ [kn]).length := ⟨_, rfl⟩
                        rw [← hn23] at hv23
                        have hadl : ad.block < W.heap.size := Nat.lt_of_lt_of_le HADL.out (Nat.le_trans HBW6.out.size HBX.out.size)
                        have hcP : ∀ p' : Dc.Past [] W, p'.val.cell? (ad.add i) = some (.slice yA yn yc) := fun p' => (p'.ok.cell (by rw [block_of_add]; exact hadl) (by simp)).trans (HQY.out _ (HBK.out _ HKX.out))
                        obtain ⟨W4, hW4⟩ : ∃ W4, W4 = w10.drew := ⟨_, rfl⟩
                        have hd4 : Below w10.heap.size w10 W4 := by rw [hW4]; exact ⟨rfl, rfl, rfl, Nat.le_refl _, fun k _ => rfl⟩
                        have hb4 := bthen hb10 hd4
                        have hk4 : Keep F wL W4 := HK6.out.trans (Keep.of_below hb4)
                        have hbk4 := HBK.out _ hk4
                        have hcP4 : ∀ p' : Dc.Past [] W4, p'.val.cell? (ad.add i) = some (.slice yA yn yc) := fun p' => (p'.ok.cell (by rw [block_of_add]; exact Nat.lt_of_lt_of_le HADL.out hbk4.size) (by simp)).trans (HQY.out _ hbk4)
                        have hof := ofS_any (pv := .pointer (some ⟨g, 0, none⟩)) (M := Mof (addR R b v2 yl)) (.inr ⟨g, o2, _, rfl, HP6.out.below hb4, rfl⟩) (HNW.out _ hk4) (by rw [pgs_addR, if_pos rfl, HYL.out]; omega)
                        rw [pgs_addR, if_pos rfl] at hof
                        have HR10 := Lib.hid hr10
                        have HO10 := Lib.hid (ho10.below hd4)
                        have HB4 := Lib.hid hb4
                        have HBK4 := Lib.hid hbk4
                        have HBA := Lib.hid hba
                        have HW4 := Lib.hid hW4
                        have HKN := Lib.hid hkn
                        have HOFF := Lib.hid hof
                        have HCP4 := Lib.hid hcP4
                        have HV23 := Lib.hid hv23
                        obtain ⟨n16, hn16⟩ : ∃ n16, n16 = (lessK K r).length := ⟨_, rfl⟩
                        rw [← hn16] at hv16
                        subst hv16
                        clear hbw hdW hW HO hln hr10 ho10 hg10 hba hb10 hpk hn23 hadl hW4 hd4 hb4 hk4 hbk4 hcP4 hof hkn hn16 hv23
                        go_wp2_with fail
                        refine Dc.wp_region_segs 9 [] [([0, 1, 3, 4, 5, 6], 2), ([7], 8), ([], 9)] [10] (by kernel_rfl) (by kernel_rfl) (by kernel_rfl) (by kernel_rfl) (by kernel_rfl) (by intro c a d v w h; cases d <;> exact h) ?_
                        rw [← HW.out]
                        refine Dc.wpSegs_more ?_
                        simp only [Dc.pick, List.getElem?_cons_zero, List.getElem?_cons_succ]
                        repeat (first | go_big_quiet_step (fail) | quiet_step (fail))
                        refine wpQuiet_nil ?_
                        refine Dc.wpOp_heavy rfl (by rfl) (fun Q hQ => ?_)
                        go_simp
                        refine (told_old HMX.out (by rw [HLN.out]; omega) (HNW.out _ HKX.out) HXJ.out (HFIRST.out _ _ HXJ.out)).mono ?_
                        rintro e w9 ⟨rfl, rfl⟩
                        refine hQ _ _ (fun _ => Dc.But.refl _ _) ?_
                        clear hQ Q hcP
                        refine Dc.wpSegs_more ?_
                        simp only [Dc.pick, List.getElem?_cons_zero, List.getElem?_cons_succ]
                        repeat (first | go_big_quiet_step (fail) | quiet_step (fail))
                        refine wpQuiet_nil ?_
                        refine Dc.wpOp_heavy rfl (by rfl) (fun Q hQ => ?_)
                        go_simp
                        refine hQ _ _ (fun _ => Dc.But.of_below HBA.out) ?_
                        clear hQ Q
                        refine Dc.wpSegs_more ?_
                        simp only [Dc.pick]
                        refine wpQuiet_nil ?_
                        refine Dc.wpOp_heavy rfl (by rfl) (fun Q hQ => ?_)
                        refine oper_append_ran (.tmp 116) (.tmp 124) 62 rfl _ _ _ _ rfl rfl HR10.out ?_
                        refine hQ _ _ (fun h => absurd rfl h) ?_
                        clear hQ Q
                        rw [HV23.out]
                        refine Dc.wpSegs_last ?_
                        simp only [Dc.pick, List.getElem?_cons_zero, List.getElem?_cons_succ]
                        repeat (first | go_big_quiet_step (fail) | quiet_step (fail))
                        refine wpQuiet_nil ?_
                        have hcP4 := HCP4.out
                        go_wp2_with fail
                        refine Dc.wp_region_segs 15 [] [([0, 1, 3, 4, 5, 6], 2), ([], 7), ([8, 9, 10, 11], 12)] [13, 14, 15] (by kernel_rfl) (by kernel_rfl) (by kernel_rfl) (by kernel_rfl) (by kernel_rfl) (by intro c a d v w h; cases d <;> exact h) ?_
                        rw [← HW4.out]
                        refine Dc.wpSegs_more ?_
                        simp only [Dc.pick, List.getElem?_cons_zero, List.getElem?_cons_succ]
                        repeat (first | go_big_quiet_step (fail) | quiet_step (fail))
                        refine wpQuiet_nil ?_
                        refine Dc.wpOp_heavy rfl (by rfl) (fun Q hQ => ?_)
                        go_simp
                        refine HOFF.out.mono ?_
                        rintro e w11 ⟨vo, rfl, hoo, hb11⟩
                        obtain ⟨Ao, co, hvo, _, hlo⟩ := hoo.form
                        rw [HYL.out] at hvo
                        subst hvo
                        refine hQ _ _ (fun _ => Dc.But.of_below hb11) ?_
                        clear hQ Q hcP4
                        have HLO := Lib.hid hlo
                        have HB11 := Lib.hid hb11
                        clear hoo hb11 hlo
                        refine Dc.wpSegs_more ?_
                        simp only [Dc.pick]
                        refine wpQuiet_nil ?_
                        refine Dc.wpOp_heavy rfl (by rfl) (fun Q hQ => ?_)
                        go_simp
                        refine (shSame_any HLO.out HYL.out (HYLS.out _ (HBK4.out.trans (HB11.out.mono HBK4.out.size))) HYL.out (by omega) (by omega)).mono ?_
                        rintro e w12 ⟨rfl, hb12⟩
                        rw [decide_eq_true rfl]
                        refine hQ _ _ (fun _ => Dc.But.of_below hb12) ?_
                        clear hQ Q
                        have HB12 := Lib.hid (bthen HB4.out (bthen HB11.out hb12))
                        have HD12 := Lib.hid (bthen HB11.out hb12)
                        clear hb12
                        refine Dc.wpSegs_more ?_
                        simp only [Dc.pick, List.getElem?_cons_zero, List.getElem?_cons_succ]
                        repeat (first | go_big_quiet_step (fail) | quiet_step (fail))
                        refine wpQuiet_nil ?_
                        refine Dc.wpOp_heavy rfl (by rfl) (fun Q hQ => ?_)
                        go_simp
                        refine (of_nil w12 _).mono ?_
                        rintro e w13 ⟨rfl, rfl⟩
                        refine hQ _ _ (fun _ => Dc.But.refl _ _) ?_
                        clear hQ Q
                        refine Dc.wpSegs_last ?_
                        simp only [Dc.pick, List.getElem?_cons_zero, List.getElem?_cons_succ]
                        repeat (first | go_big_quiet_step (fail) | quiet_step (fail))
                        refine wpQuiet_nil ?_
                        have HFIN : Hid (Pg2 wL w.heap.size F g (i + 1) l L o2 (addR R b v2 yl) (lessK K r ++ [kn]) (.slice A23 n23 c23) w13) := Lib.hid (by
                          have hrow := (HO10.out.below HD12.out).mono (b' := w.heap.size) HBW6.out.size
                          rw [HV23.out] at hrow
                          refine ⟨HK6.out.trans (Keep.of_below HB12.out), HP6.out.below HB12.out, HO6.out, ?_, hrow, ?_, ?_, ?_, ?_, ?_⟩
                          · rw [HKN.out]
                            exact HPG.out.cor.step HXM.out HALIKE.out v2 yA yc yl
                          · intro x hx
                            rcases List.mem_append.1 hx with hx | hx
                            · exact HPG.out.fromL x (List.mem_filter.1 hx).1
                            · rw [List.mem_singleton.1 hx, HKN.out]
                              exact ⟨_, HYM.out, rfl, rfl⟩
                          · intro x hx
                            rcases addR_mem hx with hx | hx
                            · exact HPG.out.fewR x hx
                            · rw [hx]
                              show yl.length ≤ 100
                              rw [HYL.out]
                              omega
                          · intro x hx
                            rcases List.mem_append.1 hx with hx | hx
                            · exact HPG.out.fewK x (List.mem_filter.1 hx).1
                            · rw [List.mem_singleton.1 hx, HKN.out]
                              show yl.length ≤ 100
                              rw [HYL.out]
                              omega
                          · have h1 := addR_len R b v2 yl
                            have h2 := HPG.out.lenR
                            omega
                          · have h1 := lessK_len K r
                            have h2 := HPG.out.lenK
                            rw [List.length_append, List.length_singleton]
                            omega)
                        go_wp2
                        refine ⟨?_, by simp [intOf]; omega⟩
                        repeat apply Exists.intro
                        exact ⟨⟨i + 1, _, _, _, _, by omega, by go_num, rfl, HFIN⟩, rfl⟩
                · have hgeI : ((i : Int) ≥ n) := by omega
                  obtain ⟨A13, c13, hv13, hc13, hl13⟩ := HPG.out.row.form
                  have hks : ∀ k ≤ K.length, (allK (K.take k)).length ≤ 100000 := fun k hk => by
                    have h1 := allK_len (m := 100) (K.take k) fun x hx => HPG.out.fewK x (List.mem_of_mem_take hx)
                    have h2 := HPG.out.lenK
                    rw [List.length_take] at h1
                    omega
                  obtain ⟨nK, hnK⟩ : ∃ nK, K.length = nK := ⟨_, rfl⟩
                  rw [hnK] at hv13 hks
                  subst hv13
                  have HKS := Lib.hid hks
                  have HNK := Lib.hid hnK
                  have hnK60 : nK ≤ 60 := by have := HPG.out.lenK; omega
                  have HL13 := Lib.hid hl13
                  have HBWt := Lib.hid (HBK.out _ HPG.out.keep)
                  clear hc13 hl13 hks hnK
                  go_wp2_with fail
                  refine (all_any (M := Mof R) (.inr ⟨g, o', R, rfl, HPG.out.pb, rfl⟩) (by
                    have h1 := sumR_le (m := 100) R HPG.out.fewR
                    have h2 := HPG.out.lenR
                    omega)).mono ?_
                  rintro r y1 ⟨va, la, rfl, hoa, hra, hma, hb1⟩
                  have HLA : Hid (la = allK K) := Lib.hid (HPG.out.cor.same hra hma)
                  obtain ⟨Aa, ca, rfl, _, hla⟩ := hoa.form
                  have HY1 := Lib.hid hb1
                  have HOA := Lib.hid hla
                  obtain ⟨na, hna⟩ : ∃ na, la.length = na := ⟨_, rfl⟩
                  rw [hna]
                  have HNA := Lib.hid hna
                  have HNA2 : Hid (na ≤ 100000) := Lib.hid (by
                    rw [← hna, HLA.out]
                    have := HKS.out nK (Nat.le_refl _)
                    rwa [List.take_of_length_le (by rw [HNK.out]; exact Nat.le_refl _)] at this)
                  clear hoa hra hma hb1 hla hna
                  go_wp2_with fail
                  refine (refAll_any (HPG.out.fromL.arg ((HA.out.below HBWt.out).below HY1.out) (HL13.out.below HY1.out) HNK.out) (by omega) (fun k hk => HKS.out k hk) (fun x hx => Nat.le_trans (HPG.out.fewK x hx) (by omega))).mono ?_
                  rintro r y2 ⟨vb, rfl, hob, hb2⟩
                  obtain ⟨Ab, cb, rfl, _, hlb⟩ := hob.form
                  obtain ⟨nb, hnb⟩ : ∃ nb, (allK K).length = nb := ⟨_, rfl⟩
                  rw [hnb]
                  have HNB := Lib.hid hnb
                  have HNB2 : Hid (nb ≤ 100000) := Lib.hid (by rw [← hnb, ← HLA.out, HNA.out]; exact HNA2.out)
                  have HY2 := Lib.hid (bthen HY1.out hb2)
                  have HOA2 := Lib.hid (HOA.out.below hb2)
                  have HOB := Lib.hid hlb
                  clear hob hb2 hlb hnb
                  go_wp2_with fail
                  refine (shSame_any HOA2.out HNA.out HOB.out HNB.out (by have := HNA2.out; omega) (by have := HNB2.out; omega)).mono ?_
                  rintro r y3 ⟨rfl, hb3⟩
                  rw [decide_eq_true HLA.out]
                  have HY3 := Lib.hid (bthen HY2.out hb3)
                  clear hb3
                  go_wp2_with fail
                  refine (all_nil y3).mono ?_
                  rintro r y4 ⟨vc, lc, rfl, hoc, hrc, hmc, hb4⟩
                  have hlc : lc = [] := List.eq_nil_iff_forall_not_mem.2 fun x hx => by
                    obtain ⟨y, hy, _⟩ := (hmc x).1 hx
                    cases hy
                  rw [hlc] at hoc
                  obtain ⟨Ac, cc, rfl, _, _⟩ := hoc.form
                  have HY4 := Lib.hid (bthen HY3.out hb4)
                  clear hoc hrc hmc hb4 hlc
                  go_wp2_with fail
                  refine (of_niln (HPG.out.pb.below HY4.out)).mono ?_
                  rintro r y5 ⟨vd, rfl, hod, hb5⟩
                  obtain ⟨Ad, cd, rfl, _, _⟩ := hod.form
                  have HY5 := Lib.hid (bthen HY4.out hb5)
                  clear hod hb5
                  go_wp2
                  go_ret
                  exact ⟨rfl, HBWt.out.trans (HY5.out.mono HBWt.out.size)⟩
              · have him2 : ¬ ((i : Int) < m) := by omega
                obtain ⟨A13, c13, hv13, hc13, hl13⟩ := HPG.out.row.form
                have hks : ∀ k ≤ K.length, (allK (K.take k)).length ≤ 100000 := fun k hk => by
                  have h1 := allK_len (m := 100) (K.take k) fun x hx => HPG.out.fewK x (List.mem_of_mem_take hx)
                  have h2 := HPG.out.lenK
                  rw [List.length_take] at h1
                  omega
                obtain ⟨nK, hnK⟩ : ∃ nK, K.length = nK := ⟨_, rfl⟩
                rw [hnK] at hv13 hks
                subst hv13
                have HKS := Lib.hid hks
                have HNK := Lib.hid hnK
                have hnK60 : nK ≤ 60 := by have := HPG.out.lenK; omega
                have HL13 := Lib.hid hl13
                have HBWt := Lib.hid (HBK.out _ HPG.out.keep)
                clear hc13 hl13 hks hnK
                go_wp2_with fail
                refine (all_any (M := Mof R) (.inr ⟨g, o', R, rfl, HPG.out.pb, rfl⟩) (by
                  have h1 := sumR_le (m := 100) R HPG.out.fewR
                  have h2 := HPG.out.lenR
                  omega)).mono ?_
                rintro r y1 ⟨va, la, rfl, hoa, hra, hma, hb1⟩
                have HLA : Hid (la = allK K) := Lib.hid (HPG.out.cor.same hra hma)
                obtain ⟨Aa, ca, rfl, _, hla⟩ := hoa.form
                have HY1 := Lib.hid hb1
                have HOA := Lib.hid hla
                obtain ⟨na, hna⟩ : ∃ na, la.length = na := ⟨_, rfl⟩
                rw [hna]
                have HNA := Lib.hid hna
                have HNA2 : Hid (na ≤ 100000) := Lib.hid (by
                  rw [← hna, HLA.out]
                  have := HKS.out nK (Nat.le_refl _)
                  rwa [List.take_of_length_le (by rw [HNK.out]; exact Nat.le_refl _)] at this)
                clear hoa hra hma hb1 hla hna
                go_wp2_with fail
                refine (refAll_any (HPG.out.fromL.arg ((HA.out.below HBWt.out).below HY1.out) (HL13.out.below HY1.out) HNK.out) (by omega) (fun k hk => HKS.out k hk) (fun x hx => Nat.le_trans (HPG.out.fewK x hx) (by omega))).mono ?_
                rintro r y2 ⟨vb, rfl, hob, hb2⟩
                obtain ⟨Ab, cb, rfl, _, hlb⟩ := hob.form
                obtain ⟨nb, hnb⟩ : ∃ nb, (allK K).length = nb := ⟨_, rfl⟩
                rw [hnb]
                have HNB := Lib.hid hnb
                have HNB2 : Hid (nb ≤ 100000) := Lib.hid (by rw [← hnb, ← HLA.out, HNA.out]; exact HNA2.out)
                have HY2 := Lib.hid (bthen HY1.out hb2)
                have HOA2 := Lib.hid (HOA.out.below hb2)
                have HOB := Lib.hid hlb
                clear hob hb2 hlb hnb
                go_wp2_with fail
                refine (shSame_any HOA2.out HNA.out HOB.out HNB.out (by have := HNA2.out; omega) (by have := HNB2.out; omega)).mono ?_
                rintro r y3 ⟨rfl, hb3⟩
                rw [decide_eq_true HLA.out]
                have HY3 := Lib.hid (bthen HY2.out hb3)
                clear hb3
                go_wp2_with fail
                refine (all_nil y3).mono ?_
                rintro r y4 ⟨vc, lc, rfl, hoc, hrc, hmc, hb4⟩
                have hlc : lc = [] := List.eq_nil_iff_forall_not_mem.2 fun x hx => by
                  obtain ⟨y, hy, _⟩ := (hmc x).1 hx
                  cases hy
                rw [hlc] at hoc
                obtain ⟨Ac, cc, rfl, _, _⟩ := hoc.form
                have HY4 := Lib.hid (bthen HY3.out hb4)
                clear hoc hrc hmc hb4 hlc
                go_wp2_with fail
                refine (of_niln (HPG.out.pb.below HY4.out)).mono ?_
                rintro r y5 ⟨vd, rfl, hod, hb5⟩
                obtain ⟨Ad, cd, rfl, _, _⟩ := hod.form
                have HY5 := Lib.hid (bthen HY4.out hb5)
                clear hod hb5
                go_wp2
                go_ret
                exact ⟨rfl, HBWt.out.trans (HY5.out.mono HBWt.out.size)⟩

end Go.Proofs.YtelenboncejdaaaGreatDoor

namespace Go.Proofs.YtelenboncejdaaaGreatDoor.shadowPages
open Go Go.ChangeShapes Go.WideShapes Go.ChangeAt Go.RowKit
open Go.ChangeMaps (open_string shut_string)
set_option linter.unusedVariables false

theorem own : ownKnob Tryz.prog.godebug = none := by kernel_rfl

theorem laidOut : laidOutB Tryz.prog = true := by kernel_rfl

set_option maxRecDepth 100000 in
theorem lifted (os : Os) (started : os.Started) (H : Type) (enc : TypeId × Value → H) :
    ReturnsInHanded {} Tryz.checked os 7 .any (fun w args => (Rows.shadowPagesSpec.pre enc Tryz.prog Tryz.f7 [] false w args ∧ laidMetH Tryz.prog laidL w) ∧ sizedMet enc Tryz.prog Tryz.f7 (OpenSpec.ofChange Rows.shadowPagesSpec) false w args)
      (Rows.shadowPagesSpec.post enc Tryz.prog Tryz.f7 false true false false) := by
  refine returnsInHanded_of_change_and (C := Tryz.checked) (X := fun w _ => laidMetH Tryz.prog laidL w) (fun _ _ _ hh h => h.of_heap hh) own started (by kernel_rfl) Tryz.func7
    (ChangeSpec.witness_shaped (enc := enc) (C := Tryz.checked) (os := os) (X := fun w _ => laidMetH Tryz.prog laidL w) false (World.doorLaid Tryz.prog 14 os) #[.slice none 0 0, .slice none 0 0, .bool false] 8 rfl (World.shaped_of_RefB (by kernel_rfl) (by kernel_rfl)) (by kernel_rfl) (by kernel_rfl) (by kernel_rfl) (door_met os _)) ?_
  intro W base args ds gs before hval0 hW hcnd hsz0 hL _
  have hval : ∀ (j : Nat) t v, Tryz.f7.params[j]? = some t → args[j]? = some v → Value.okWide Tryz.prog W .any base t v := hval0
  have hsz : (DataW.weightsEach Tryz.prog (Tryz.f7.params.toList ++ Rows.shadowPagesSpec.plain.varTypes Tryz.prog) (ds ++ gs)).all (· ≤ reachBytes) = true := hsz0
  have hW' := hW
  obtain ⟨p, q, hA0, hV, rfl, hfz, hnd⟩ := hW
  have hA : DataW.TrodAll enc Tryz.prog W 0 (fun _ => true) true Tryz.f7.params.toList args.toList ds p := hA0
  rw [Tryz.params7] at hA hval hsz
  obtain ⟨v0, vs0, d0, ds0, p0, q0, hargs, rfl, rfl, h0, r0⟩ := trodAll_cons hA
  obtain ⟨v1, vs1, d1, ds1, p1, q1, rfl, rfl, rfl, h1, r1⟩ := trodAll_cons r0
  obtain ⟨v2, vs2, d2, ds2, p2, q2, rfl, rfl, rfl, h2, r2⟩ := trodAll_cons r1
  obtain ⟨rfl, rfl, rfl⟩ := trodAll_nil r2
  obtain rfl : args = #[v0, v1, v2] := by cases args; simp_all
  obtain ⟨rfl, rfl⟩ := trodVars_none hV
  have k0 := h0
  have lt0 : ∀ x ∈ p0, x.block < W.heap.size := by obtain ⟨m, hm⟩ := k0; exact DataW.trod_lt m _ _ _ hm
  obtain ⟨A0, n0, c0, rfl⟩ := okWide_slice Tryz.underlying79 (hval 0 79 v0 rfl rfl)
  obtain ⟨l0, w0⟩ := open_ints2 h0 (fun m hm => of_decide_eq_true (List.all_eq_true.1 hsz _ (DataW.weights_mem_each (j := 0) (t := 79) rfl rfl m hm)))
  have k1 := h1
  have lt1 : ∀ x ∈ p1, x.block < W.heap.size := by obtain ⟨m, hm⟩ := k1; exact DataW.trod_lt m _ _ _ hm
  obtain ⟨A1, n1, c1, rfl⟩ := okWide_slice Tryz.underlying46 (hval 1 46 v1 rfl rfl)
  obtain ⟨l1, w1⟩ := open_bytes h1 (fun m hm => of_decide_eq_true (List.all_eq_true.1 hsz _ (DataW.weights_mem_each (j := 1) (t := 46) rfl rfl m hm)))
  obtain ⟨a2, rfl, rfl, rfl⟩ := open_bool Tryz.underlying4 (hval 2 4 v2 rfl rfl) h2
  clear hA0 hval0 hsz hsz0
  refine (shadowPages_walk A0 n0 c0 l0 A1 n1 c1 l1 a2 W (half_of_laid hL) w0 w1).mono fun e W' ⟨he, bel⟩ => ?_
  subst he
  exact ⟨_, rfl, _, _, _, [], _, [], hW', trodAll_mk1 (shut_bool Tryz.underlying4 _), (trodAll_cons_mk (Below.trod laidOut (by kernel_rfl) (of_decide_eq_true (by kernel_rfl)) k0 bel lt0) (trodAll_cons_mk (Below.trod laidOut (by kernel_rfl) (of_decide_eq_true (by kernel_rfl)) k1 bel lt1) (trodAll_cons_mk (shut_bool Tryz.underlying4 _) trodAll_mk0))), rfl, bel.frame _, fun h => by cases h⟩

theorem over : Rows.ShadowPagesSaid :=
  OpenClaim.holds_of_wide 7 Tryz.f7 rfl rfl rfl rfl rfl rfl rfl ⟨rfl, rfl, rfl, rfl, rfl⟩ rfl rfl rfl rfl rfl (by kernel_rfl) Tryz.func7 (by kernel_rfl)
    (of_decide_eq_true (by kernel_rfl)) (by unfold Func.isWrapper; first | (rw [if_pos (by decide +kernel)]; kernel_rfl) | (rw [if_neg (by decide +kernel)]; exact ⟨rfl, rfl⟩))
    (fun os started H enc _ => lifted os started H enc)

theorem proved : Rows.ShadowPagesCardSaid :=
  Claim7.holds_tied_plain_at .later [] [.data] true (true, "834f3212cc0299adbaa9d4d9daa7d4728c309c0cf5ee58ceb704e4a98d21dc95") true
    over (fun _ h => by cases h) (by kernel_rfl) (fun _ h => by cases h) shadowPages_row_tie rfl ⟨rfl, rfl⟩ (by kernel_rfl) rfl
    (fun f fn hf hfn => by
      obtain rfl : f = 7 := Option.some.inj ((show Tryz.prog.funcNamed "sapwood/sapwoodlaw14.ShadowPages" = some 7 by kernel_rfl).symm.trans hf) |>.symm
      obtain rfl : fn = Tryz.f7 := (Option.some.inj (Tryz.func7.symm.trans hfn)).symm
      exact ⟨by kernel_rfl, fun j t ht => by
        rw [Tryz.params7] at ht
        have hm : t ∈ [79, 46, 4] := by simpa using Array.mem_of_getElem? ht
        have hall : ([79, 46, 4].all fun u => !Tryz.prog.wantsStandIn u) = true := by kernel_rfl
        exact (show Tryz.prog.wantsStandIn t = false by simpa using List.all_eq_true.1 hall t hm)⟩)
    (by kernel_rfl)
#print axioms proved

end Go.Proofs.YtelenboncejdaaaGreatDoor.shadowPages
