/-
  The contract of plan.takeFor: pages for the pieces and the node, or the first error; conditions: the node lies in memory, few entries.
-/
import Derived.Test.YtelenboncejdaaaGreatDoorShEnv
namespace Go.Proofs.YtelenboncejdaaaGreatDoor
open Go.RowKit Go.Sort
open Rt (Fx Stp)
set_option linter.unusedVariables false
set_option linter.unusedSimpArgs false

theorem pagesN_cut (e : Ent) : (pagesN e.v : Nat) = (cutL e.v).length := (cutL_length e.v).symm
/-- What takeFor answers. -/
def ForPost {σ : Type} (E : Env σ) (w : World) (l : List Ent) (s : σ) (e : Ending) (w' : World) : Prop :=
  E.I (E.t.takes (pieces l + 1) s).2.2 w' ∧ E.D w' ∧ Stp E.T w E.T w' ∧
  (((E.t.takes (pieces l + 1) s).2.1 = 0 ∧ ∃ v, e = .returned (.tuple #[v, .int .i64 0]) ∧ OwnI w' w.heap.size v (rot (pieces l) (E.t.takes (pieces l + 1) s).1)) ∨
   ((E.t.takes (pieces l + 1) s).2.1 ≠ 0 ∧ e = .returned (.tuple #[.slice none 0 0, .int .i64 (E.t.takes (pieces l + 1) s).2.1])))

set_option maxHeartbeats 2000000 in
set_option maxRecDepth 100000 in
theorem takeFor_any {σ : Type} (E : Env σ) {w : World} {pb b : Nat} {N : NR} {l : List Ent} {u0 u2 u3 : Value} {s : σ} (hp : w.heap[pb]? = some (.cells #[u0, E.fv, u2, u3] 108 (0, 0))) (hI : E.I s w) (hD : E.D w) (hb : E.base ≤ w.heap.size)
    (hT : ∀ k, E.T k → k < w.heap.size) (hpT : ¬ E.T pb) (hN : NodeAt w b N) (hE : Es w N.ea l) (hl : l.length = N.en) (hn : N.en ≤ 1000) (hv : ∀ e ∈ l, e.v.size ≤ 140737488351232) :
    Calls Tryz.prog 77 #[.pointer (some ⟨pb, 0, none⟩), pn b] w (ForPost E w l s) := by
  have HP := Lib.hid hp
  have HI := Lib.hid hI
  have HD := Lib.hid hD
  have HB := Lib.hid hb
  have HT := Lib.hid hT
  have HPT := Lib.hid hpT
  have HN := Lib.hid hN
  have HE := Lib.hid hE
  have HL := Lib.hid hl
  have HV := Lib.hid hv
  have hpl := pieces_le l
  have HPL := Lib.hid hpl
  clear hp hI hD hb hT hpT hN hE hl hv hpl
  go_enter Tryz.func77, Tryz.ntmps77
  go_wp2_with fail
  refine (entries_any HN.out HE.out HL.out (by omega)).mono ?_
  rintro e w1 ⟨v, rfl, ho, hb1⟩
  obtain ⟨A, c, rfl, hc, hr⟩ := ho.form
  obtain ⟨n, hln⟩ : ∃ n, l.length = n := ⟨_, rfl⟩
  have hn1 : n ≤ 1000 := by have := HL.out; omega
  rw [hln] at hc ⊢
  have HLN := Lib.hid hln
  have HR := Lib.hid hr
  have HB1 := Lib.hid hb1
  clear ho hr hb1 hln
  go_wp2
  go_loopw [6, 15] (fun s6 s15 wr => ∃ k : Nat, k ≤ n ∧ s15 = .int .i64 k ∧ s6 = .int .i64 (pieces (l.take k) : Nat) ∧ Below w1.heap.size w1 wr) (fun _ s15 _ => n - (intOf s15).toNat)
  case atStart => exact ⟨0, Nat.zero_le _, rfl, rfl, Below.refl _ _⟩
  case round =>
    obtain ⟨k, hk, rfl, rfl, hbw⟩ := hrel
    have hpk := Nat.le_trans (pieces_take l k) HPL.out
    have hle2 : pieces (l.take k) ≤ 2000 := by have := HLN.out; omega
    by_cases hlt : k < n
    · obtain ⟨ad, x, rfl, hx, hl1, q0, q1⟩ := (HR.out.below hbw).at_ (i := k) (by rw [HLN.out]; exact hlt)
      have hxv := HV.out x (List.mem_of_getElem? hx)
      have hnx := pieces_snoc hx
      have hcl := cutL_le x.v
      rw [cutL_length] at hnx hcl
      have HNX := Lib.hid hnx
      have HBW := Lib.hid hbw
      clear hx hbw hnx hpk
      go_wp2_with fail
      have hb2 : Below wr.heap.size wr (wr.alloc (.cells #[.string x.k, .string x.v] 87)) := (Below.refl _ _).alloc (Nat.le_refl _) _
      refine (chPages_any x.v _ hxv).mono ?_
      rintro e w2 ⟨rfl, rfl⟩
      have HB2 := Lib.hid (bthen HBW.out hb2)
      clear hb2
      go_wp2
      refine ⟨⟨k + 1, by omega, by go_num, ?_, HB2.out⟩, by simp [intOf]; omega⟩
      rw [HNX.out]
      go_num
    · have he : k = n := by omega
      subst he
      rw [List.take_of_length_le (by rw [HLN.out]; exact Nat.le_refl _)] at hle2 ⊢
      have HBW := Lib.hid (bthen HB1.out hbw)
      obtain ⟨P, hP⟩ : ∃ P, P = pieces l := ⟨_, rfl⟩
      rw [← hP] at hle2 ⊢
      have HPP := Lib.hid hP
      clear hbw hP hpk hlt
      go_wp2
      have hbW : Below w.heap.size w (wr.alloc (.cells #[] 3)) := HBW.out.alloc HBW.out.size _
      have HO0 : Hid (OwnI (wr.alloc (.cells #[] 3)) w.heap.size (.slice (some ⟨wr.heap.size, 0, none⟩) 0 0) []) := Lib.hid ((empty_row wr).mono HBW.out.size)
      have HI0 := Lib.hid (E.ik s w _ HI.out (Fx.below hbW) fun k hk => hbW.block k (HT.out k hk))
      have HD0 := Lib.hid (E.dk w _ HD.out (Fx.below hbW) fun k hk _ => hbW.block k (by have := HB.out; omega))
      have HS0 := Lib.hid (Stp.of_below hbW HT.out)
      generalize wr.alloc (.cells #[] 3) = W0 at HO0 HI0 HD0 HS0 ⊢
      generalize wr.heap.size = q0 at HO0 ⊢
      clear hbW
      go_loopw [9, 28] (fun s9 s28 wx => ∃ (j : Nat) (v : Value), v = s9 ∧ j ≤ P + 1 ∧ s28 = .int .i64 j ∧ (∀ i, i < j → E.t.er (E.t.it i s) = 0) ∧ OwnI wx w.heap.size v ((List.range j).map fun i => E.t.pg (E.t.it i s)) ∧ Stp E.T w E.T wx ∧ E.I (E.t.it j s) wx ∧ E.D wx) (fun _ s28 _ => P + 1 - (intOf s28).toNat)
      case atStart => exact ⟨0, _, rfl, Nat.zero_le _, rfl, fun i hi => absurd hi (by omega), HO0.out, HS0.out, HI0.out, HD0.out⟩
      case round =>
        obtain ⟨j, v, rfl, hj, rfl, hok, hown, hS, hIx, hDx⟩ := hrel
        have HOK := Lib.hid hok
        have HOWN := Lib.hid hown
        have HS := Lib.hid hS
        have HIX := Lib.hid hIx
        have HDX := Lib.hid hDx
        clear hok hown hS hIx hDx
        by_cases hlt : j < P + 1
        · go_wp2_with fail
          refine (takeOne_any E (pb := pb) (u0 := u0) (u2 := u2) (u3 := u3) ((HS.out.same pb (lt_of_block HP.out) HPT.out).trans HP.out) HIX.out HDX.out (Nat.le_trans HB.out HS.out.fx.size) HS.out.lt).mono ?_
          rintro e w2 ⟨rfl, hI2, hD2, hS2⟩
          have HI2 := Lib.hid hI2
          have HD2 := Lib.hid hD2
          have HS2 := Lib.hid (HS.out.trans hS2)
          have hown2 : OwnI w2 w.heap.size v ((List.range j).map fun i => E.t.pg (E.t.it i s)) := HOWN.out.keep fun g hg hlt2 => hS2.same g hlt2 fun ht => by
            have h1 := HOWN.out.at_block g hg
            have h2 := HT.out g ht
            omega
          clear hI2 hD2 hS2
          by_cases her : E.t.er (E.t.it j s) = 0
          · obtain ⟨v', w3, hrun, hown3, hg3⟩ := run_append_one (f := icell) ienc 38 3 38 _ _ ⟨_, Tryz.underlying38, rfl⟩ intInfo rfl (by omega) (by omega) (by omega) hown2 (E.t.pg (E.t.it j s)) (by simp; omega) HS2.out.fx.size
            have hbz : Below w2.heap.size w2 (w2.alloc (.cells (icell (E.t.pg (E.t.it j s))).toArray 3)) := (Below.refl _ _).alloc (Nat.le_refl _) _
            have hkT : ∀ k, E.T k → w3.heap[k]? = w2.heap[k]? := fun k hk => by
              have h1 := HS2.out.lt k hk
              have h2 := HT.out k hk
              exact (hg3.block k (Nat.lt_of_lt_of_le h1 hbz.size) fun e => by
                have := hown2.at_block k e.symm
                omega).trans (hbz.block k h1)
            have hkw : ∀ k, k < w.heap.size → w3.heap[k]? = w2.heap[k]? := fun k hk => (hg3.block k (Nat.lt_of_lt_of_le hk (Nat.le_trans HS2.out.fx.size hbz.size)) fun e => by
                have := hown2.at_block k e.symm
                omega).trans (hbz.block k (Nat.lt_of_lt_of_le hk HS2.out.fx.size))
            have hfx : Fx w2 w3 := (Fx.below hbz).trans ⟨hg3.os, hg3.tape, hg3.output, hg3.size⟩
            have HI3 := Lib.hid (E.ik _ w2 w3 HI2.out hfx hkT)
            have HD3 := Lib.hid (E.dk w2 w3 HD2.out hfx fun k hk _ => hkw k (Nat.lt_of_lt_of_le hk HB.out))
            have HS3 : Hid (Stp E.T w E.T w3) := Lib.hid ⟨HS2.out.fx.trans hfx, HS2.out.own, fun k hk => Nat.lt_of_lt_of_le (HS2.out.lt k hk) hfx.size, fun k hk hn => (hkw k hk).trans (HS2.out.same k hk hn)⟩
            have HO3 : Hid (OwnI w3 w.heap.size v' ((List.range (j + 1)).map fun i => E.t.pg (E.t.it i s))) := Lib.hid (by rw [List.range_succ, List.map_append]; exact hown3)
            have HRUN := Lib.hid hrun
            have HER := Lib.hid her
            have HIT := Lib.hid (E.t.it_succ j s)
            obtain ⟨x, hx⟩ : ∃ x, x = E.t.pg (E.t.it j s) := ⟨_, rfl⟩
            rw [← hx] at HRUN ⊢
            rw [her]
            clear hrun hown3 hg3 hbz hkT hkw hfx hown2 her hx
            have HRUN' : Hid ((Builtin.append_ #[38, 38] 38 #[v, .slice (some ⟨w2.heap.size, 0, none⟩) 1 1]).run Tryz.prog (w2.alloc (.cells #[.int .i64 x] 3)) = .ok v' w3) := HRUN
            clear HRUN
            go_wp2_with (at_builtin; refine wpList_append_ran rfl (.tmp 38) (.tmp 40) 38 rfl _ _ _ _ rfl rfl HRUN'.out ?_)
            refine ⟨⟨j + 1, v', rfl, by omega, by go_num, fun i hi => ?_, HO3.out, HS3.out, ?_, HD3.out⟩, by simp [intOf]; omega⟩
            · rcases Nat.lt_or_ge i j with h | h
              · exact HOK.out i h
              · rw [show i = j by omega]
                exact HER.out
            · rw [HIT.out]
              exact HI3.out
          · have hterr := E.t.takes_err (P + 1) j s hlt HOK.out her
            have HTE := Lib.hid hterr
            have HER := Lib.hid her
            have HIT := Lib.hid (E.t.it_succ j s)
            obtain ⟨er, her2⟩ : ∃ er, er = E.t.er (E.t.it j s) := ⟨_, rfl⟩
            have herb : (er != 0) = true := by rw [her2]; simpa using her
            have HE2 := Lib.hid her2
            rw [← her2]
            clear hterr hown2 her her2
            go_wp2
            go_ret2
            unfold ForPost
            rw [← HPP.out, HTE.out]
            refine ⟨by rw [HIT.out]; exact HI2.out, HD2.out, HS2.out, .inr ⟨HER.out, by rw [HE2.out]; rfl⟩⟩
        · have he : j = P + 1 := by omega
          subst he
          have htk := E.t.takes_ok (P + 1) s HOK.out
          have HTK := Lib.hid htk
          obtain ⟨L, hL⟩ : ∃ L, L = (List.range (P + 1)).map fun i => E.t.pg (E.t.it i s) := ⟨_, rfl⟩
          have HOWN' : Hid (OwnI wr w.heap.size v L) := Lib.hid (by rw [hL]; exact HOWN.out)
          have hll : L.length = P + 1 := by rw [hL]; simp
          have HLE := Lib.hid hL
          clear HOWN htk hL
          obtain ⟨A2, c2, rfl, hc2, hr2⟩ := HOWN'.out.form
          rw [hll] at hc2 ⊢
          obtain ⟨ad2, x0, rfl, _, hlt2, _⟩ := hr2.atI (i := 0) (by omega)
          have HLL := Lib.hid hll
          have HR2 := Lib.hid hr2
          clear hll hr2
          have hc3 : ¬ c2 = P := by omega
          have hc4 : P ≤ c2 := by omega
          obtain ⟨W, hW⟩ : ∃ W, W = wr.drew := ⟨_, rfl⟩
          have HW := Lib.hid hW
          clear hW
          go_wp2_with fail
          refine Dc.wp_region_segs 7 [] [([0, 1, 2, 3, 4, 5], 6), ([], 7)] [8, 9] (by kernel_rfl) (by kernel_rfl) (by kernel_rfl) (by kernel_rfl) (by kernel_rfl) (by intro c a d v w h; cases d <;> exact h) ?_
          rw [← HW.out]
          refine Dc.wpSegs_more ?_
          simp only [Dc.pick, List.getElem?_cons_zero, List.getElem?_cons_succ]
          repeat (first | go_big_quiet_step (fail) | quiet_step (fail))
          refine wpQuiet_nil ?_
          refine Dc.wpOp_heavy rfl (by rfl) (fun K hK => ?_)
          go_simp
          have hbW : Below wr.heap.size wr W := by rw [HW.out]; exact (Below.refl _ _).drew
          have hbA : Below W.heap.size W (W.alloc (.cells #[.slice (some (ad2.add P)) 1 (c2 - P), .slice (some ad2) P c2] 38)) := (Below.refl _ _).alloc (Nat.le_refl _) _
          refine hK _ _ (fun _ => Dc.But.of_below hbA) ?_
          clear hK K
          have hbwA := bthen hbW hbA
          have h1 : Ls icell (W.alloc (.cells #[.slice (some (ad2.add P)) 1 (c2 - P), .slice (some ad2) P c2] 38)) (some ad2) L := HR2.out.below hbwA
          have hr0 := heap_alloc_new W (.cells #[.slice (some (ad2.add P)) 1 (c2 - P), .slice (some ad2) P c2] 38)
          have hd : Ls icell (W.alloc (.cells #[.slice (some (ad2.add P)) 1 (c2 - P), .slice (some ad2) P c2] 38)) (some (ad2.add P)) (L.drop P) := by
            have := h1.cut ienc (k := P) (c := c2) (by rw [HLL.out]; exact hc2)
            rw [if_neg hc3, Nat.mul_one] at this
            exact this
          have ht := h1.take_ P
          have HA := Lib.hid hbwA
          have hbase : wr.heap.size ≤ W.heap.size := hbW.size
          have HCA : Hid (∀ j p, ([⟨some (ad2.add P), c2 - P, L.drop P⟩, ⟨some ad2, c2, L.take P⟩] : List PartI)[j]? = some p → (W.alloc (.cells #[.slice (some (ad2.add P)) 1 (c2 - P), .slice (some ad2) P c2] 38)).cell? ((⟨W.heap.size, 0, none⟩ : Addr).add j) = some (.slice p.A p.l.length p.c) ∧ Ls icell (W.alloc (.cells #[.slice (some (ad2.add P)) 1 (c2 - P), .slice (some ad2) P c2] 38)) p.A p.l) := Lib.hid fun j p hj => by
            match j with
            | 0 =>
              cases hj
              refine ⟨?_, hd⟩
              rw [show (⟨W.heap.size, 0, none⟩ : Addr).add 0 = ⟨W.heap.size, 0, none⟩ from rfl, cell_at hr0 0 _ rfl]
              simp only [List.length_drop, HLL.out]
              rw [show P + 1 - P = 1 by omega]
              rfl
            | 1 =>
              cases hj
              refine ⟨?_, ht⟩
              rw [show (⟨W.heap.size, 0, none⟩ : Addr).add 1 = ⟨W.heap.size, 1, none⟩ from rfl, cell_at hr0 1 _ rfl]
              simp only [List.length_take, HLL.out]
              rw [show min P (P + 1) = P by omega]
              rfl
            | j + 2 => simp at hj
          have hall : pallI ([⟨some (ad2.add P), c2 - P, L.drop P⟩, ⟨some ad2, c2, L.take P⟩] : List PartI) = rot P L := by simp [pallI, rot]
          have HALL := Lib.hid hall
          have hlt3 : W.heap.size < (W.alloc (.cells #[.slice (some (ad2.add P)) 1 (c2 - P), .slice (some ad2) P c2] 38)).heap.size := by simp
          clear hr0 hd ht h1 hbwA hbA hbW hall
          generalize W.alloc (.cells #[.slice (some (ad2.add P)) 1 (c2 - P), .slice (some ad2) P c2] 38) = W3 at HA HCA hlt3 ⊢
          refine Dc.wpSegs_more ?_
          simp only [Dc.pick]
          refine wpQuiet_nil ?_
          refine Dc.wpOp_heavy rfl (by rfl) (fun K hK => ?_)
          go_simp
          refine (concatI_any ⟨W.heap.size, 0, none⟩ 2 2 [⟨some (ad2.add P), c2 - P, L.drop P⟩, ⟨some ad2, c2, L.take P⟩] W3 hlt3 rfl HCA.out (by rw [HALL.out, rot, List.length_append, List.length_drop, List.length_take, HLL.out]; omega) (by omega)).mono ?_
          rintro e w4 ⟨v4, rfl, ho4, hb4⟩
          rw [HALL.out] at ho4
          refine hK _ _ (fun _ => Dc.But.of_below hb4) ?_
          clear hK K
          have hb24 := bthen HA.out hb4
          have HI4 := Lib.hid (E.ik _ wr w4 HIX.out (Fx.below hb24) fun k hk => hb24.block k (HS.out.lt k hk))
          have HD4 := Lib.hid (E.dk wr w4 HDX.out (Fx.below hb24) fun k hk _ => hb24.block k (Nat.lt_of_lt_of_le hk (Nat.le_trans HB.out HS.out.fx.size)))
          have HS4 := Lib.hid (HS.out.below_ hb24)
          have HO4 := Lib.hid (ho4.mono (Nat.le_trans HS.out.fx.size HA.out.size))
          clear ho4 hb4 hb24
          refine Dc.wpSegs_last ?_
          simp only [Dc.pick, List.getElem?_cons_zero, List.getElem?_cons_succ]
          repeat (first | go_big_quiet_step (fail) | quiet_step (fail))
          refine wpQuiet_nil ?_
          go_wp2
          go_ret2
          unfold ForPost
          rw [← HPP.out, HTK.out]
          refine ⟨HI4.out, HD4.out, HS4.out, .inl ⟨rfl, v4, rfl, ?_⟩⟩
          have := HO4.out
          rw [HLE.out] at this
          exact this

end Go.Proofs.YtelenboncejdaaaGreatDoor
