/-
  CursorAll: from First on by Next all entries come, in order, each once; from Last on by Prev all, the other way round; what is made of the tree meanwhile plays no part; for every two lists; no condition beyond the row's.
-/
import Derived.Test.YtkooaechcbopnaaCurHelp
import Derived.SizedLaws
import Derived.ProofKit
import Derived.Lib.SmallJoins
namespace Go.Proofs.Ytkooaechcbopnaa
open Go.RowKit Go.Sort Go.ChangeShapes Go.WideShapes Rt
set_option linter.unusedVariables false
set_option linter.unusedSimpArgs false

/-- Two cursors in one tree. -/
structure Both2 (w0 : World) (T : TO) (bc bd : Nat) (p q : Option Nat) (W : World) : Prop where
  cu : Cur w0 T bc p W
  du : Cur w0 T bd q W
  ne : bc ≠ bd
section
variable {w0 W W' : World} {T : TO} {bc bd : Nat} {p q r : Option Nat}
theorem Both2.below (h : Both2 w0 T bc bd p q W) (hb : Below W.heap.size W W') : Both2 w0 T bc bd p q W' := ⟨h.cu.below hb, h.du.below hb, h.ne⟩
theorem Both2.first (h : Both2 w0 T bc bd p q W) (hm : Mv bc W W') (hc : Cur w0 T bc r W') : Both2 w0 T bc bd r q W' := ⟨hc, h.du.other hm h.cu.lo h.ne.symm, h.ne⟩
theorem Both2.second (h : Both2 w0 T bc bd p q W) (hm : Mv bd W W') (hc : Cur w0 T bd r W') : Both2 w0 T bc bd p r W' := ⟨h.cu.other hm h.du.lo h.ne, hc, h.ne⟩
end
/-- The place from behind. -/
def backL (l : List Ent) (k : Nat) : Option Nat := if k < l.length then some (l.length - 1 - k) else none
theorem backL_zero (l : List Ent) : mvLast l = backL l 0 := by
  unfold mvLast backL inL
  by_cases h : 0 < l.length
  · rw [if_pos h, if_pos (by omega)]
    rfl
  · rw [if_neg h, if_neg (by omega)]
theorem backL_succ {l : List Ent} {k : Nat} (h : k < l.length) : mvPrev l (backL l k) = backL l (k + 1) := by
  unfold backL
  rw [if_pos h]
  unfold mvPrev
  simp only
  by_cases h0 : l.length - 1 - k = 0
  · rw [if_pos h0, if_neg (by omega)]
  · rw [if_neg h0, if_pos (by omega)]
    unfold inL
    rw [if_pos (by omega)]
    congr 1
theorem inL_succ {l : List Ent} {k : Nat} (h : k < l.length) : mvNext l (inL l k) = inL l (k + 1) := by
  unfold inL
  rw [if_pos h]
  rfl
theorem inL_is {l : List Ent} {t : Nat} (h : l.length = t) (k : Nat) : (inL l k).isSome = decide (k < t) := by
  rw [← h]
  unfold inL
  by_cases h : k < l.length
  · rw [if_pos h, decide_eq_true h]
    rfl
  · rw [if_neg h, decide_eq_false h]
    rfl
theorem backL_is {l : List Ent} {t : Nat} (h : l.length = t) (k : Nat) : (backL l k).isSome = decide (k < t) := by
  rw [← h]
  unfold backL
  by_cases h : k < l.length
  · rw [if_pos h, decide_eq_true h]
    rfl
  · rw [if_neg h, decide_eq_false h]
    rfl

set_option maxRecDepth 100000 in
set_option maxHeartbeats 16000000 in
theorem cursorAll_walk (A : Option Addr) (n c : Nat) (l : List Ent) (M : Option Addr) (m d : Nat) (ml : List Ent) (w : World) (ha : Arg w A n c l) (hq : Arg w M m d ml) :
    Calls Try.prog 4 #[.slice A n c, .slice M m d] w fun e w' => e = .returned (.bool true) ∧ Below w.heap.size w w' := by
  have HA := Lib.hid ha
  have HQ := Lib.hid hq
  have hcap := hq.cap
  have hsm := hq.small
  clear ha hq
  go_enter Try.func4, Try.ntmps4
  go_wp2_with fail
  refine (cuAwake_any w).mono ?_
  rintro e w1 ⟨rfl, hb1⟩
  have HB1 := Lib.hid hb1
  clear hb1
  go_wp2_with fail
  refine (cuBuilt_any A n c l w1 (show Arg w1 A n c l from ⟨HA.out.len, HA.out.cap, HA.out.small, HA.out.es.below HB1.out, HA.out.strs⟩)).mono ?_
  rintro r w2 ⟨T, v, ⟨q, rfl⟩, ht, ho, hl, hb2⟩
  obtain ⟨A2, c2, rfl, hc2, hes⟩ := ho.form
  have HB2 := Lib.hid (bthen HB1.out hb2)
  have HT := Lib.hid ht
  obtain ⟨t, htt⟩ : ∃ t, (tl T).length = t := ⟨_, rfl⟩
  have HES := Lib.hid hes
  have HTL := Lib.hid htt
  rw [htt] at hl hc2 ⊢
  obtain ⟨pt, hpt⟩ : ∃ pt, tb T = .pointer pt := ⟨_, rfl⟩
  rw [hpt]
  have HP := Lib.hid hpt
  clear ht ho hes hb2 htt hpt
  cases q with
  | false =>
    go_wp2
    go_ret
    exact ⟨rfl, HB2.out⟩
  | true =>
  by_cases h100 : 100 < m
  · go_wp2
    go_ret
    exact ⟨rfl, HB2.out⟩
  go_wp2_with fail
  refine (curNew_any w2 pt).mono ?_
  rintro e w3 ⟨rfl, rfl⟩
  have hcu : Cur w2 T w2.heap.size none (w2.alloc (.cells #[.pointer pt, .string ⟨#[]⟩] 53)) := by rw [← HP.out]; exact Cur.new HT.out (Below.refl _ w2)
  have hb3 : Below w2.heap.size w2 (w2.alloc (.cells #[.pointer pt, .string ⟨#[]⟩] 53)) := (Below.refl _ _).alloc (Nat.le_refl _) _
  have hs3 : (w2.alloc (.cells #[.pointer pt, .string ⟨#[]⟩] 53)).heap.size = w2.heap.size + 1 := by simp
  obtain ⟨w3, hw3⟩ : ∃ w3, w2.alloc (.cells #[.pointer pt, .string ⟨#[]⟩] 53) = w3 := ⟨_, rfl⟩
  rw [hw3] at hcu hb3 hs3 ⊢
  have HCU := Lib.hid hcu
  have HB3 := Lib.hid hb3
  have HS3 := Lib.hid hs3
  clear hcu hb3 hs3 hw3
  go_wp2_with fail
  refine (curNew_any w3 pt).mono ?_
  rintro e w4 ⟨rfl, rfl⟩
  have hdu : Cur w2 T w3.heap.size none (w3.alloc (.cells #[.pointer pt, .string ⟨#[]⟩] 53)) := by rw [← HP.out]; exact Cur.new HT.out HB3.out
  have hb4 : Below w3.heap.size w3 (w3.alloc (.cells #[.pointer pt, .string ⟨#[]⟩] 53)) := (Below.refl _ _).alloc (Nat.le_refl _) _
  obtain ⟨w4, hw4⟩ : ∃ w4, w3.alloc (.cells #[.pointer pt, .string ⟨#[]⟩] 53) = w4 := ⟨_, rfl⟩
  rw [hw4] at hdu hb4 ⊢
  have hboth : Both2 w2 T w2.heap.size w3.heap.size none none w4 := ⟨HCU.out.below hb4, hdu, by have := HS3.out; omega⟩
  have HB4 := Lib.hid (bthen (bthen HB2.out HB3.out) hb4)
  have HBR : Hid (w.heap.size ≤ w2.heap.size ∧ w.heap.size ≤ w3.heap.size) := Lib.hid (by have := HB2.out.size; have := HS3.out; omega)
  obtain ⟨bc, hbc⟩ : ∃ bc, w2.heap.size = bc := ⟨_, rfl⟩
  obtain ⟨bd, hbd⟩ : ∃ bd, w3.heap.size = bd := ⟨_, rfl⟩
  rw [hbc, hbd] at hboth ⊢
  rw [hbc, hbd] at HBR
  have H4 := Lib.hid hboth
  clear hbc hbd hboth hdu hb4 hw4 HCU HB3 HS3 HB2
  go_wp2_with fail
  refine (curFirst_any H4.out.cu).mono ?_
  rintro e w5 ⟨rfl, hm, hc⟩
  have H5 := Lib.hid (H4.out.first hm hc)
  have HB5 := Lib.hid (HB4.out.trans (Mv.below' hm HB4.out.size HBR.out.1))
  clear hm hc H4 HB4
  go_wp2_with fail
  refine (curLast_any H5.out.du).mono ?_
  rw [backL_zero]
  rintro e w6 ⟨rfl, hm, hc⟩
  have H6 := Lib.hid (H5.out.second hm hc)
  have HB6 := Lib.hid (HB5.out.trans (Mv.below' hm HB5.out.size HBR.out.2))
  have f1 : (mvFirst (tl T)).isSome = decide (0 < t) := inL_is HTL.out 0
  have f2 : (backL (tl T) 0).isSome = decide (0 < t) := backL_is HTL.out 0
  rw [f1, f2]
  obtain ⟨f0, hf0⟩ : ∃ f0, decide (0 < t) = f0 := ⟨_, rfl⟩
  rw [hf0]
  have HF0 := Lib.hid hf0
  clear hm hc H5 HB5 f1 f2 hf0
  go_wp2_with fail
  go_loopw [10, 11, 46] (fun s10 s11 i wr => ∃ k : Nat, k ≤ t ∧ i = .int .i64 k ∧ (∃ f : Bool, s10 = .bool f ∧ s11 = .bool f ∧ Hid (f = decide (k < t))) ∧ Hid (Both2 w2 T bc bd (inL (tl T) k) (backL (tl T) k) wr) ∧ Hid (Below w.heap.size w wr)) (fun _ _ i _ => t - (intOf i).toNat)
  case atStart => exact ⟨0, Nat.zero_le _, rfl, ⟨f0, rfl, rfl, Lib.hid HF0.out.symm⟩, H6, HB6⟩
  case round =>
    obtain ⟨k, hk, rfl, ⟨f, rfl, rfl, HF⟩, H, HB⟩ := hrel
    clear H6 HB6 HF0
    by_cases hlt : k < t
    · obtain rfl : f = true := by rw [HF.out]; exact decide_eq_true hlt
      have hin : inL (tl T) k = some k := if_pos (by rw [HTL.out]; exact hlt)
      have hba : backL (tl T) k = some (t - 1 - k) := by unfold backL; rw [HTL.out, if_pos hlt]
      have HK := Lib.hid (inL_succ (l := tl T) (k := k) (by rw [HTL.out]; exact hlt))
      have HKb := Lib.hid (backL_succ (l := tl T) (k := k) (by rw [HTL.out]; exact hlt))
      rw [hin] at H HK
      rw [hba] at H HKb
      obtain ⟨e1, he1⟩ : ∃ e1, (tl T)[k]? = some e1 := ⟨_, List.getElem?_eq_getElem (by rw [HTL.out]; exact hlt)⟩
      obtain ⟨j, hj⟩ : ∃ j, t - 1 - k = j := ⟨_, rfl⟩
      have hjj : (t : Int) - 1 - (k : Int) = (j : Int) := by omega
      have hjt : j < t := by omega
      rw [hj] at H HKb
      obtain ⟨e2, he2⟩ : ∃ e2, (tl T)[j]? = some e2 := ⟨_, List.getElem?_eq_getElem (by rw [HTL.out]; exact hjt)⟩
      have HE1 := Lib.hid he1
      have HE2 := Lib.hid he2
      have HJ := Lib.hid hjj
      clear hin hba he1 he2 hj hjj HF

      by_cases hmk : k < m
      · obtain ⟨ad, x, rfl, hx, hl, g0, g1⟩ := HQ.out.es.at_ (i := k) (by rw [HQ.out.len]; exact hmk)
        have hst := HQ.out.strs x (List.mem_of_getElem? hx)
        have r0 : wr.cell? (ad.add (k * 2)) = some (.string x.k) := (HB.out.cell (by rw [block_of_add]; exact hl)).trans g0
        have r1 : wr.cell? ⟨(ad.add (k * 2)).block, (ad.add (k * 2)).off + 1, none⟩ = some (.string x.v) := (HB.out.cell (p := ⟨(ad.add (k * 2)).block, (ad.add (k * 2)).off + 1, none⟩) (by show (ad.add (k * 2)).block < _; rw [block_of_add]; exact hl)).trans g1
        have HG0 := Lib.hid g0
        have HG1 := Lib.hid g1
        have HAL : Hid (ad.block < w.heap.size) := Lib.hid hl
        have HST := Lib.hid hst
        have hst1 := hst.1
        have hst2 := hst.2
        clear hx hl g0 g1 hst
        by_cases hbig : x.k.size + x.v.size < 2000
        · go_wp2
          go_quiet (fail)
          obtain ⟨wa, hwd⟩ : ∃ wd, wr.drewN nq = wd := ⟨_, rfl⟩
          have hbd : Below wr.heap.size wr wa := by rw [← hwd]; exact below_drewN (Below.refl _ _) _
          rw [hwd]
          have HD := Lib.hid (H.out.below hbd)
          have HBD := Lib.hid (HB.out.trans (hbd.mono HB.out.size))
          have HTa : Hid (TreeIs wa T) := Lib.hid (HD.out.cu.tr.below HD.out.cu.bel)
          obtain ⟨ad4, x4, had4, hx4, _, g0, g1⟩ := (HES.out.below HD.out.cu.bel).at_ (i := k) (by rw [HTL.out]; exact hlt)
          cases had4
          obtain rfl := Option.some.inj (HE1.out.symm.trans hx4)
          clear hwd hbd H HB r0 r1 hx4
          go_wp2_with fail
          refine Calls.mono (by have := del_any (key := e1.k) HTa.out (HTa.out.low (by rw [HTL.out]; omega)); rw [HP.out] at this; exact this) ?_
          rintro r v1 ⟨T', rfl, ht', hb1, htl', _, _⟩
          obtain ⟨fd, hfd⟩ : ∃ fd, (look (tl T) e1.k).isSome = fd := ⟨_, rfl⟩
          rw [hfd]
          have HT' := Lib.hid ht'
          have HL' : Hid ((tl T').length ≤ 80000) := Lib.hid (by
            rw [htl']
            have := del_length e1.k HTa.out.sorted
            rw [HTL.out] at this
            omega)
          have HD1 := Lib.hid (HD.out.below hb1)
          have HBD1 := Lib.hid (HBD.out.trans (hb1.mono HBD.out.size))
          have r0 : v1.cell? (ad.add (k * 2)) = some (.string x.k) := (HBD1.out.cell (by rw [block_of_add]; exact HAL.out)).trans HG0.out
          have r1 : v1.cell? ⟨(ad.add (k * 2)).block, (ad.add (k * 2)).off + 1, none⟩ = some (.string x.v) := (HBD1.out.cell (p := ⟨(ad.add (k * 2)).block, (ad.add (k * 2)).off + 1, none⟩) (by show (ad.add (k * 2)).block < _; rw [block_of_add]; exact HAL.out)).trans HG1.out
          obtain ⟨pt', hpt'⟩ : ∃ pt', tb T' = .pointer pt' := ⟨_, rfl⟩
          rw [hpt']
          have HP' := Lib.hid hpt'
          clear ht' hb1 htl' hfd hpt' HD HBD HTa g0 g1
          go_wp2_with fail
          refine Calls.mono (by have := put_any (e := x) HT'.out (HT'.out.low HL'.out) HST.out.1 HST.out.2; rw [HP'.out] at this; exact this) ?_
          rintro r v2 ⟨T2, rfl, ht2, hb2, _, _⟩
          have HD := Lib.hid (HD1.out.below hb2)
          have HBD := Lib.hid (HBD1.out.trans (hb2.mono HBD1.out.size))
          obtain ⟨tv, htv⟩ : ∃ tv, tb T2 = tv := ⟨_, rfl⟩
          rw [htv]
          clear ht2 hb2 htv HD1 HBD1 r0 r1 HT' HL' HP'
          go_wp2_with fail

          refine (curEntry_any HD.out.cu).mono ?_
          rw [show entAt (tl T) (some k) = some e1 from HE1.out, show ansV (some e1) = .tuple #[.agg #[.string e1.k, .string e1.v], .bool true] from rfl]
          rintro e v3 ⟨rfl, hb3⟩
          have HP3 := Lib.hid (HD.out.below hb3)
          have HB3 := Lib.hid (HBD.out.trans (hb3.mono HBD.out.size))
          have hba : Below v3.heap.size v3 (v3.alloc (.cells #[.string e1.k, .string e1.v] 39)) := (Below.refl _ _).alloc (Nat.le_refl _) _
          have hz := heap_alloc_new v3 (.cells #[.string e1.k, .string e1.v] 39)
          obtain ⟨v4, hv4⟩ : ∃ v4, v3.alloc (.cells #[.string e1.k, .string e1.v] 39) = v4 := ⟨_, rfl⟩
          rw [hv4] at hba hz
          have HP4 := Lib.hid (HP3.out.below hba)
          have HB4 := Lib.hid (HB3.out.trans (hba.mono HB3.out.size))
          have HV4 := Lib.hid hv4
          have HZ4 := Lib.hid hz
          clear hba hz hv4 hb3 HD HBD HP3 HB3
          go_wp2_with fail
          rw [HV4.out]
          refine (curEntry_any HP4.out.du).mono ?_
          rw [show entAt (tl T) (some j) = some e2 from HE2.out, show ansV (some e2) = .tuple #[.agg #[.string e2.k, .string e2.v], .bool true] from rfl]
          rintro e v5 ⟨rfl, hb5⟩
          have hz5 := (hb5.block _ (at_lt HZ4.out)).trans HZ4.out
          have hba : Below v5.heap.size v5 (v5.alloc (.cells #[.string e2.k, .string e2.v] 39)) := (Below.refl _ _).alloc (Nat.le_refl _) _
          have hz6 := (hba.block _ (at_lt hz5)).trans hz5
          have hz7 := heap_alloc_new v5 (.cells #[.string e2.k, .string e2.v] 39)
          have hp5 := (HP4.out.below hb5).below hba
          have hes5 := HES.out.below hp5.cu.bel
          obtain ⟨v6, hv6⟩ : ∃ v6, v5.alloc (.cells #[.string e2.k, .string e2.v] 39) = v6 := ⟨_, rfl⟩
          have q0 := cell_row hz6 0 _ rfl
          have q1 := cell_row hz6 1 _ rfl
          obtain ⟨ad2, x1, had0, hx1, _, g0, g1⟩ := hes5.at_ (i := k) (by rw [HTL.out]; exact hlt)
          cases had0
          obtain rfl := Option.some.inj (HE1.out.symm.trans hx1)
          obtain ⟨ad3, x2, had, hx2, _, g2, g3⟩ := hes5.at_ (i := j) (by rw [HTL.out]; exact hjt)
          cases had
          obtain rfl := Option.some.inj (HE2.out.symm.trans hx2)
          have hn1 := neq_same e1.k e1.v
          have hn2 := neq_same e2.k e2.v
          have hjj := HJ.out
          have HP5 := Lib.hid hp5
          have HB5 := Lib.hid ((HB4.out.trans (hb5.mono HB4.out.size)).trans (hba.mono (Nat.le_trans HB4.out.size hb5.size)))
          have HV6 := Lib.hid hv6
          rw [hv6] at HP5 HB5
          clear hz5 hz6 hz7 hba hb5 hp5 hes5 hv6 hx1 hx2 HP4 HB4 HV4 HZ4
          go_wp2
          go_quiet (fail)
          rw [HV6.out]
          obtain ⟨wb, hwb⟩ : ∃ wd, v6.drewN nq = wd := ⟨_, rfl⟩
          have hbd : Below v6.heap.size v6 wb := by rw [← hwb]; exact below_drewN (Below.refl _ _) _
          rw [hwb]
          have HE := Lib.hid (HP5.out.below hbd)
          have HBE := Lib.hid (HB5.out.trans (hbd.mono HB5.out.size))
          clear hwb hbd HP5 HB5 HV6 q0 q1 g0 g1 g2 g3 hn1 hn2 hjj
          go_wp2_with fail
          refine (curNext_any HE.out.cu).mono ?_
          rw [HK.out]
          rintro e v7 ⟨rfl, hm, hc⟩
          have HE7 := Lib.hid (HE.out.first hm hc)
          have HB7 := Lib.hid (HBE.out.trans (Mv.below' hm HBE.out.size HBR.out.1))
          clear hm hc HE HBE
          go_wp2_with fail
          refine (curPrev_any HE7.out.du).mono ?_
          rw [HKb.out]
          rintro e v8 ⟨rfl, hm, hc⟩
          have HE8 := Lib.hid (HE7.out.second hm hc)
          have HB8 := Lib.hid (HB7.out.trans (Mv.below' hm HB7.out.size HBR.out.2))
          clear hm hc HE7 HB7
          rw [inL_is HTL.out, backL_is HTL.out]
          obtain ⟨f9, hf9⟩ : ∃ f9, f9 = decide (k + 1 < t) := ⟨_, rfl⟩
          rw [← hf9]
          have HF9 := Lib.hid hf9
          clear hf9
          go_wp2
          exact ⟨⟨k + 1, by omega, by go_num, ⟨f9, rfl, rfl, HF9⟩, HE8, HB8⟩, by simp [intOf]; omega⟩

        · go_wp2
          go_quiet (fail)
          obtain ⟨wa, hwd⟩ : ∃ wd, wr.drewN nq = wd := ⟨_, rfl⟩
          have hbd : Below wr.heap.size wr wa := by rw [← hwd]; exact below_drewN (Below.refl _ _) _
          rw [hwd]
          have HD := Lib.hid (H.out.below hbd)
          have HBD := Lib.hid (HB.out.trans (hbd.mono HB.out.size))
          clear hwd hbd H HB r0 r1
          go_wp2_with fail
          refine (curEntry_any HD.out.cu).mono ?_
          rw [show entAt (tl T) (some k) = some e1 from HE1.out, show ansV (some e1) = .tuple #[.agg #[.string e1.k, .string e1.v], .bool true] from rfl]
          rintro e v3 ⟨rfl, hb3⟩
          have HP3 := Lib.hid (HD.out.below hb3)
          have HB3 := Lib.hid (HBD.out.trans (hb3.mono HBD.out.size))
          have hba : Below v3.heap.size v3 (v3.alloc (.cells #[.string e1.k, .string e1.v] 39)) := (Below.refl _ _).alloc (Nat.le_refl _) _
          have hz := heap_alloc_new v3 (.cells #[.string e1.k, .string e1.v] 39)
          obtain ⟨v4, hv4⟩ : ∃ v4, v3.alloc (.cells #[.string e1.k, .string e1.v] 39) = v4 := ⟨_, rfl⟩
          rw [hv4] at hba hz
          have HP4 := Lib.hid (HP3.out.below hba)
          have HB4 := Lib.hid (HB3.out.trans (hba.mono HB3.out.size))
          have HV4 := Lib.hid hv4
          have HZ4 := Lib.hid hz
          clear hba hz hv4 hb3 HD HBD HP3 HB3
          go_wp2_with fail
          rw [HV4.out]
          refine (curEntry_any HP4.out.du).mono ?_
          rw [show entAt (tl T) (some j) = some e2 from HE2.out, show ansV (some e2) = .tuple #[.agg #[.string e2.k, .string e2.v], .bool true] from rfl]
          rintro e v5 ⟨rfl, hb5⟩
          have hz5 := (hb5.block _ (at_lt HZ4.out)).trans HZ4.out
          have hba : Below v5.heap.size v5 (v5.alloc (.cells #[.string e2.k, .string e2.v] 39)) := (Below.refl _ _).alloc (Nat.le_refl _) _
          have hz6 := (hba.block _ (at_lt hz5)).trans hz5
          have hz7 := heap_alloc_new v5 (.cells #[.string e2.k, .string e2.v] 39)
          have hp5 := (HP4.out.below hb5).below hba
          have hes5 := HES.out.below hp5.cu.bel
          obtain ⟨v6, hv6⟩ : ∃ v6, v5.alloc (.cells #[.string e2.k, .string e2.v] 39) = v6 := ⟨_, rfl⟩
          have q0 := cell_row hz6 0 _ rfl
          have q1 := cell_row hz6 1 _ rfl
          obtain ⟨ad2, x1, had0, hx1, _, g0, g1⟩ := hes5.at_ (i := k) (by rw [HTL.out]; exact hlt)
          cases had0
          obtain rfl := Option.some.inj (HE1.out.symm.trans hx1)
          obtain ⟨ad3, x2, had, hx2, _, g2, g3⟩ := hes5.at_ (i := j) (by rw [HTL.out]; exact hjt)
          cases had
          obtain rfl := Option.some.inj (HE2.out.symm.trans hx2)
          have hn1 := neq_same e1.k e1.v
          have hn2 := neq_same e2.k e2.v
          have hjj := HJ.out
          have HP5 := Lib.hid hp5
          have HB5 := Lib.hid ((HB4.out.trans (hb5.mono HB4.out.size)).trans (hba.mono (Nat.le_trans HB4.out.size hb5.size)))
          have HV6 := Lib.hid hv6
          rw [hv6] at HP5 HB5
          clear hz5 hz6 hz7 hba hb5 hp5 hes5 hv6 hx1 hx2 HP4 HB4 HV4 HZ4
          go_wp2
          go_quiet (fail)
          rw [HV6.out]
          obtain ⟨wb, hwb⟩ : ∃ wd, v6.drewN nq = wd := ⟨_, rfl⟩
          have hbd : Below v6.heap.size v6 wb := by rw [← hwb]; exact below_drewN (Below.refl _ _) _
          rw [hwb]
          have HE := Lib.hid (HP5.out.below hbd)
          have HBE := Lib.hid (HB5.out.trans (hbd.mono HB5.out.size))
          clear hwb hbd HP5 HB5 HV6 q0 q1 g0 g1 g2 g3 hn1 hn2 hjj
          go_wp2_with fail
          refine (curNext_any HE.out.cu).mono ?_
          rw [HK.out]
          rintro e v7 ⟨rfl, hm, hc⟩
          have HE7 := Lib.hid (HE.out.first hm hc)
          have HB7 := Lib.hid (HBE.out.trans (Mv.below' hm HBE.out.size HBR.out.1))
          clear hm hc HE HBE
          go_wp2_with fail
          refine (curPrev_any HE7.out.du).mono ?_
          rw [HKb.out]
          rintro e v8 ⟨rfl, hm, hc⟩
          have HE8 := Lib.hid (HE7.out.second hm hc)
          have HB8 := Lib.hid (HB7.out.trans (Mv.below' hm HB7.out.size HBR.out.2))
          clear hm hc HE7 HB7
          rw [inL_is HTL.out, backL_is HTL.out]
          obtain ⟨f9, hf9⟩ : ∃ f9, f9 = decide (k + 1 < t) := ⟨_, rfl⟩
          rw [← hf9]
          have HF9 := Lib.hid hf9
          clear hf9
          go_wp2
          exact ⟨⟨k + 1, by omega, by go_num, ⟨f9, rfl, rfl, HF9⟩, HE8, HB8⟩, by simp [intOf]; omega⟩

      · go_wp2
        go_quiet (fail)
        obtain ⟨wa, hwd⟩ : ∃ wd, wr.drewN nq = wd := ⟨_, rfl⟩
        have hbd : Below wr.heap.size wr wa := by rw [← hwd]; exact below_drewN (Below.refl _ _) _
        rw [hwd]
        have HD := Lib.hid (H.out.below hbd)
        have HBD := Lib.hid (HB.out.trans (hbd.mono HB.out.size))
        clear hwd hbd H HB
        go_wp2_with fail
        refine (curEntry_any HD.out.cu).mono ?_
        rw [show entAt (tl T) (some k) = some e1 from HE1.out, show ansV (some e1) = .tuple #[.agg #[.string e1.k, .string e1.v], .bool true] from rfl]
        rintro e v3 ⟨rfl, hb3⟩
        have HP3 := Lib.hid (HD.out.below hb3)
        have HB3 := Lib.hid (HBD.out.trans (hb3.mono HBD.out.size))
        have hba : Below v3.heap.size v3 (v3.alloc (.cells #[.string e1.k, .string e1.v] 39)) := (Below.refl _ _).alloc (Nat.le_refl _) _
        have hz := heap_alloc_new v3 (.cells #[.string e1.k, .string e1.v] 39)
        obtain ⟨v4, hv4⟩ : ∃ v4, v3.alloc (.cells #[.string e1.k, .string e1.v] 39) = v4 := ⟨_, rfl⟩
        rw [hv4] at hba hz
        have HP4 := Lib.hid (HP3.out.below hba)
        have HB4 := Lib.hid (HB3.out.trans (hba.mono HB3.out.size))
        have HV4 := Lib.hid hv4
        have HZ4 := Lib.hid hz
        clear hba hz hv4 hb3 HD HBD HP3 HB3
        go_wp2_with fail
        rw [HV4.out]
        refine (curEntry_any HP4.out.du).mono ?_
        rw [show entAt (tl T) (some j) = some e2 from HE2.out, show ansV (some e2) = .tuple #[.agg #[.string e2.k, .string e2.v], .bool true] from rfl]
        rintro e v5 ⟨rfl, hb5⟩
        have hz5 := (hb5.block _ (at_lt HZ4.out)).trans HZ4.out
        have hba : Below v5.heap.size v5 (v5.alloc (.cells #[.string e2.k, .string e2.v] 39)) := (Below.refl _ _).alloc (Nat.le_refl _) _
        have hz6 := (hba.block _ (at_lt hz5)).trans hz5
        have hz7 := heap_alloc_new v5 (.cells #[.string e2.k, .string e2.v] 39)
        have hp5 := (HP4.out.below hb5).below hba
        have hes5 := HES.out.below hp5.cu.bel
        obtain ⟨v6, hv6⟩ : ∃ v6, v5.alloc (.cells #[.string e2.k, .string e2.v] 39) = v6 := ⟨_, rfl⟩
        have q0 := cell_row hz6 0 _ rfl
        have q1 := cell_row hz6 1 _ rfl
        obtain ⟨ad2, x1, had0, hx1, _, g0, g1⟩ := hes5.at_ (i := k) (by rw [HTL.out]; exact hlt)
        cases had0
        obtain rfl := Option.some.inj (HE1.out.symm.trans hx1)
        obtain ⟨ad3, x2, had, hx2, _, g2, g3⟩ := hes5.at_ (i := j) (by rw [HTL.out]; exact hjt)
        cases had
        obtain rfl := Option.some.inj (HE2.out.symm.trans hx2)
        have hn1 := neq_same e1.k e1.v
        have hn2 := neq_same e2.k e2.v
        have hjj := HJ.out
        have HP5 := Lib.hid hp5
        have HB5 := Lib.hid ((HB4.out.trans (hb5.mono HB4.out.size)).trans (hba.mono (Nat.le_trans HB4.out.size hb5.size)))
        have HV6 := Lib.hid hv6
        rw [hv6] at HP5 HB5
        clear hz5 hz6 hz7 hba hb5 hp5 hes5 hv6 hx1 hx2 HP4 HB4 HV4 HZ4
        go_wp2
        go_quiet (fail)
        rw [HV6.out]
        obtain ⟨wb, hwb⟩ : ∃ wd, v6.drewN nq = wd := ⟨_, rfl⟩
        have hbd : Below v6.heap.size v6 wb := by rw [← hwb]; exact below_drewN (Below.refl _ _) _
        rw [hwb]
        have HE := Lib.hid (HP5.out.below hbd)
        have HBE := Lib.hid (HB5.out.trans (hbd.mono HB5.out.size))
        clear hwb hbd HP5 HB5 HV6 q0 q1 g0 g1 g2 g3 hn1 hn2 hjj
        go_wp2_with fail
        refine (curNext_any HE.out.cu).mono ?_
        rw [HK.out]
        rintro e v7 ⟨rfl, hm, hc⟩
        have HE7 := Lib.hid (HE.out.first hm hc)
        have HB7 := Lib.hid (HBE.out.trans (Mv.below' hm HBE.out.size HBR.out.1))
        clear hm hc HE HBE
        go_wp2_with fail
        refine (curPrev_any HE7.out.du).mono ?_
        rw [HKb.out]
        rintro e v8 ⟨rfl, hm, hc⟩
        have HE8 := Lib.hid (HE7.out.second hm hc)
        have HB8 := Lib.hid (HB7.out.trans (Mv.below' hm HB7.out.size HBR.out.2))
        clear hm hc HE7 HB7
        rw [inL_is HTL.out, backL_is HTL.out]
        obtain ⟨f9, hf9⟩ : ∃ f9, f9 = decide (k + 1 < t) := ⟨_, rfl⟩
        rw [← hf9]
        have HF9 := Lib.hid hf9
        clear hf9
        go_wp2
        exact ⟨⟨k + 1, by omega, by go_num, ⟨f9, rfl, rfl, HF9⟩, HE8, HB8⟩, by simp [intOf]; omega⟩

    · obtain rfl : k = t := by omega
      obtain rfl : f = false := by rw [HF.out]; exact decide_eq_false hlt
      have hin : inL (tl T) k = none := if_neg (by rw [HTL.out]; exact hlt)
      have hba : backL (tl T) k = none := by unfold backL; rw [HTL.out, if_neg hlt]
      rw [hin, hba] at H
      clear hin hba HF
      go_wp2_with fail
      refine (curEntry_any H.out.cu).mono ?_
      rw [show ansV (entAt (tl T) none) = .tuple #[.agg #[.string ⟨#[]⟩, .string ⟨#[]⟩], .bool false] from rfl]
      rintro e v3 ⟨rfl, hb3⟩
      have hba : Below v3.heap.size v3 (v3.alloc (.cells #[.string ⟨#[]⟩, .string ⟨#[]⟩] 39)) := (Below.refl _ _).alloc (Nat.le_refl _) _
      obtain ⟨v4, hv4⟩ : ∃ v4, v3.alloc (.cells #[.string ⟨#[]⟩, .string ⟨#[]⟩] 39) = v4 := ⟨_, rfl⟩
      rw [hv4] at hba
      have HP4 := Lib.hid ((H.out.below hb3).below hba)
      have HB4 := Lib.hid ((HB.out.trans (hb3.mono HB.out.size)).trans (hba.mono (Nat.le_trans HB.out.size hb3.size)))
      have HV4 := Lib.hid hv4
      clear hba hv4 hb3 H HB
      go_wp2_with fail
      rw [HV4.out]
      refine (curNext_any HP4.out.cu).mono ?_
      rintro e v7 ⟨rfl, hm, hc⟩
      rw [show mvNext (tl T) none = none from rfl] at hc ⊢
      have HE7 := Lib.hid (HP4.out.first hm hc)
      have HB7 := Lib.hid (HB4.out.trans (Mv.below' hm HB4.out.size HBR.out.1))
      clear hm hc HP4 HB4 HV4
      simp only [Option.isSome_none]
      go_wp2_with fail
      refine (curNext_any HE7.out.du).mono ?_
      rintro e v8 ⟨rfl, hm, hc⟩
      rw [show mvNext (tl T) none = none from rfl] at hc ⊢
      have HB8 := Lib.hid (HB7.out.trans (Mv.below' hm HB7.out.size HBR.out.2))
      clear hm hc HE7 HB7
      simp only [Option.isSome_none]
      go_wp2
      go_ret
      exact ⟨rfl, HB8.out⟩

end Go.Proofs.Ytkooaechcbopnaa


namespace Go.Proofs.Ytkooaechcbopnaa.cursorAll
open Go.ChangeShapes Go.WideShapes Go.ChangeAt Go.RowKit
open Go.ChangeMaps (open_string shut_string)
set_option linter.unusedVariables false

theorem own : ownKnob Try.prog.godebug = none := by kernel_rfl
theorem laidOut : laidOutB Try.prog = true := by kernel_rfl

set_option maxRecDepth 100000 in
theorem lifted (os : Os) (started : os.Started) (H : Type) (enc : TypeId × Value → H) :
    ReturnsInHanded {} Try.checked os 4 .any (Rows.cursorAllSpec.pre6 enc Try.prog Try.f4 Rows.cursorAllRow.domain false) (Rows.cursorAllSpec.post enc Try.prog Try.f4 false true false false) := by
  refine returnsInHanded_of_change_sized (C := Try.checked) own started (by kernel_rfl) Try.func4
    (ChangeSpec.witness6 (enc := enc) (C := Try.checked) false ⟨#[], #[.slice none 0 0, .slice none 0 0], []⟩ 8 (by kernel_rfl) (by kernel_rfl) (by kernel_rfl) (by kernel_rfl)) ?_
  intro W base args ds gs before hval0 hW hcnd hsz0 _
  have hval : ∀ (j : Nat) t v, Try.f4.params[j]? = some t → args[j]? = some v → Value.okWide Try.prog W .any base t v := hval0
  have hsz : (DataW.weightsEach Try.prog (Try.f4.params.toList ++ Rows.cursorAllSpec.plain.varTypes Try.prog) (ds ++ gs)).all (· ≤ reachBytes) = true := hsz0
  have hW' := hW
  obtain ⟨p, q, hA0, hV, rfl, hfz, hnd⟩ := hW
  have hA : DataW.TrodAll enc Try.prog W 0 (fun _ => true) true Try.f4.params.toList args.toList ds p := hA0
  rw [Try.params4] at hA hval hsz
  obtain ⟨v0, vs0, d0, ds0, p0, q0, hargs, rfl, rfl, h0, r0⟩ := trodAll_cons hA
  obtain ⟨v1, vs1, d1, ds1, p1, q1, rfl, rfl, rfl, h1, r1⟩ := trodAll_cons r0
  obtain ⟨rfl, rfl, rfl⟩ := trodAll_nil r1
  obtain rfl : args = #[v0, v1] := by cases args; simp_all
  obtain ⟨rfl, rfl⟩ := trodVars_none hV
  obtain ⟨A0, n0, c0, rfl⟩ := okWide_slice Try.underlying22 (hval 0 22 v0 rfl rfl)
  have k0 := h0
  have lt0 : ∀ x ∈ p0, x.block < W.heap.size := by obtain ⟨m, hm⟩ := k0; exact DataW.trod_lt m _ _ _ hm
  obtain ⟨l0, w0⟩ := open_ents h0 (fun m hm => of_decide_eq_true (List.all_eq_true.1 hsz _ (DataW.weights_mem_each (j := 0) (t := 22) rfl rfl m hm)))
  obtain ⟨A1, n1, c1, rfl⟩ := okWide_slice Try.underlying22 (hval 1 22 v1 rfl rfl)
  have k1 := h1
  have lt1 : ∀ x ∈ p1, x.block < W.heap.size := by obtain ⟨m, hm⟩ := k1; exact DataW.trod_lt m _ _ _ hm
  obtain ⟨l1, w1⟩ := open_ents h1 (fun m hm => of_decide_eq_true (List.all_eq_true.1 hsz _ (DataW.weights_mem_each (j := 1) (t := 22) rfl rfl m hm)))
  clear hA0 hval0 hsz hsz0
  refine (cursorAll_walk A0 n0 c0 l0 A1 n1 c1 l1 W w0 w1).mono fun e W' ⟨he, bel⟩ => ?_
  subst he
  exact ⟨_, rfl, _, _, _, [], _, [], hW', trodAll_mk1 (shut_bool Try.underlying4 _), (trodAll_cons_mk (Below.trod laidOut (by kernel_rfl) (of_decide_eq_true (by kernel_rfl)) k0 bel lt0) (trodAll_cons_mk (Below.trod laidOut (by kernel_rfl) (of_decide_eq_true (by kernel_rfl)) k1 bel lt1) trodAll_mk0)), rfl, bel.frame _, fun h => by cases h⟩

theorem over : Rows.cursorAllRow.holds Try.pinned (OpenSpec.ofChange Rows.cursorAllSpec) :=
  OpenClaim.holds_of_wide 4 Try.f4 rfl rfl rfl rfl rfl rfl rfl ⟨rfl, rfl, rfl, rfl, rfl⟩ rfl rfl rfl rfl rfl (by kernel_rfl) Try.func4 (by kernel_rfl)
    (of_decide_eq_true (by kernel_rfl)) (by unfold Func.isWrapper; first | (rw [if_pos (by decide +kernel)]; kernel_rfl) | (rw [if_neg (by decide +kernel)]; exact ⟨rfl, rfl⟩))
    (fun os started H enc _ => lifted os started H enc)

theorem proved : Rows.CursorAllSaid := over
#print axioms proved

end Go.Proofs.Ytkooaechcbopnaa.cursorAll
