/-
  CursorPlays: in whatever tree, wherever a cursor goes, each answer is the reference's, and so is where it stands; for every list and every script; no condition beyond the row's.
-/
import Derived.Test.YtkooaechcbopnaaCurHelp
import Derived.SizedLaws
import Derived.ProofKit
import Derived.Lib.SmallJoins
namespace Go.Proofs.Ytkooaechcbopnaa
open Go.RowKit Go.Sort Go.ChangeShapes Go.WideShapes Rt
set_option linter.unusedVariables false
set_option linter.unusedSimpArgs false

theorem but_of_mv {b : Nat} {bs : List Nat} {A B : World} (h : Mv b A B) (hb : b ∈ bs) : Dc.But bs A B := ⟨h.fx.size, fun k hk hn => h.same k hk fun e => hn (by rw [e]; exact hb)⟩
/-- The cursor and the reference's, at one place. -/
structure Pair2 (w0 : World) (T : TO) (A : Option Addr) (n c bc br : Nat) (p : Option Nat) (W : World) : Prop where
  cu : Cur w0 T bc p W
  rc : RC A n c (tl T) br p W
  ne : bc ≠ br
  apart : ∀ ad, A = some ad → ad.block ≠ bc
  lo : w0.heap.size ≤ br
  cap : n ≤ c
/-- The cursor has gone ahead. -/
structure Half2 (w0 : World) (T : TO) (A : Option Addr) (n c bc br : Nat) (p q : Option Nat) (W : World) : Prop where
  cu : Cur w0 T bc q W
  rc : RC A n c (tl T) br p W
  ne : bc ≠ br
  apart : ∀ ad, A = some ad → ad.block ≠ bc
  lo : w0.heap.size ≤ br
  cap : n ≤ c
section
variable {w0 W W' : World} {T : TO} {A : Option Addr} {n c bc br : Nat} {p q : Option Nat}
theorem Pair2.below (h : Pair2 w0 T A n c bc br p W) (hb : Below W.heap.size W W') : Pair2 w0 T A n c bc br p W' := ⟨h.cu.below hb, h.rc.below hb, h.ne, h.apart, h.lo, h.cap⟩
theorem Pair2.first (h : Pair2 w0 T A n c bc br p W) (hm : Mv bc W W') (hc : Cur w0 T bc q W') : Half2 w0 T A n c bc br p q W' := ⟨hc, h.rc.other hm h.ne.symm h.apart, h.ne, h.apart, h.lo, h.cap⟩
theorem Half2.second (h : Half2 w0 T A n c bc br p q W) (hm : Mv br W W') (hc : RC A n c (tl T) br q W') : Pair2 w0 T A n c bc br q W' := ⟨h.cu.other hm h.lo h.ne, hc, h.ne, h.apart, h.lo, h.cap⟩
theorem Half2.drew (h : Half2 w0 T A n c bc br p q W) (hb : Below W.heap.size W W') : Half2 w0 T A n c bc br p q W' := ⟨h.cu.below hb, h.rc.below hb, h.ne, h.apart, h.lo, h.cap⟩
end
theorem own_addr {w : World} {base n c : Nat} {A : Option Addr} {l : List Ent} (h : Own w base (.slice A n c) l) : ∀ ad, A = some ad → base ≤ ad.block ∧ ad.block < w.heap.size := by
  intro ad e
  subst e
  rcases h.2 with ⟨h1, _⟩ | ⟨g, cap, cur, h1, h2, h3, _⟩
  · cases h1
  · cases h1
    exact ⟨h2, (Array.getElem?_eq_some_iff.1 h3).1⟩
theorem toP_last (l : List Ent) {t : Nat} (h : l.length = t) : toP l ((t : Int) - 1) = mvLast l := by
  unfold mvLast
  rw [h]
  by_cases h0 : t = 0
  · subst h0
    rw [toP_neg l (by omega)]
    exact (if_neg (by omega)).symm
  · rw [← toP_nat]
    congr 1
    omega

set_option maxRecDepth 100000 in
set_option maxHeartbeats 16000000 in
theorem cursorPlays_walk (A : Option Addr) (n c : Nat) (l : List Ent) (S : Option Addr) (m d : Nat) (sc : List CuOp) (w : World) (ha : Arg w A n c l) (hq : ArgQ w S m d sc) :
    Calls Try.prog 3 #[.slice A n c, .slice S m d] w fun e w' => e = .returned (.bool true) ∧ Below w.heap.size w w' := by
  have HA := Lib.hid ha
  have HQ := Lib.hid hq
  have hcap := hq.cap
  have hsm := hq.small
  clear ha hq
  go_enter Try.func3, Try.ntmps3
  go_wp2_with fail
  refine (cuAwake_any w).mono ?_
  rintro e w1 ⟨rfl, hb1⟩
  have HB1 := Lib.hid hb1
  clear hb1
  go_wp2_with fail
  refine (fewQ_any S m d sc w1 (HQ.out.below HB1.out)).mono ?_
  rintro e w2 ⟨rfl, f, rfl, hf⟩
  cases f with
  | false =>
    clear hf
    go_wp2_with fail
    refine (cuAwake_any w1).mono ?_
    rintro e w3 ⟨rfl, hb3⟩
    have HB3 := Lib.hid (bthen HB1.out hb3)
    clear hb3
    go_wp2
    go_ret
    exact ⟨rfl, HB3.out⟩
  | true =>
  have hm3 := hf rfl
  clear hf
  go_wp2_with fail
  refine (cuBuilt_any A n c l w1 (show Arg w1 A n c l from ⟨HA.out.len, HA.out.cap, HA.out.small, HA.out.es.below HB1.out, HA.out.strs⟩)).mono ?_
  rintro r w2 ⟨T, v, ⟨q, rfl⟩, ht, ho, hl, hb2⟩
  obtain ⟨A2, c2, rfl, hc2, hes⟩ := ho.form
  have HAD := Lib.hid (own_addr ho)
  have HB2 := Lib.hid (bthen HB1.out hb2)
  have HT := Lib.hid ht
  obtain ⟨t, htt⟩ : ∃ t, (tl T).length = t := ⟨_, rfl⟩
  have HES := Lib.hid hes
  have HTL := Lib.hid htt
  rw [htt] at hl hc2 ⊢
  obtain ⟨pt, hpt⟩ : ∃ pt, tb T = .pointer pt := ⟨_, rfl⟩
  rw [hpt]
  have HP := Lib.hid hpt
  clear ht ho hes hb2 htt hpt
  cases q with
  | false =>
    go_wp2
    go_ret
    exact ⟨rfl, HB2.out⟩
  | true =>
  go_wp2_with fail
  refine (curNew_any w2 pt).mono ?_
  rintro e w3 ⟨rfl, rfl⟩
  rw [← HP.out]
  have hcu := Cur.new HT.out (Below.refl _ w2)
  have hb3 : Below w2.heap.size w2 (w2.alloc (.cells #[tb T, .string ⟨#[]⟩] 53)) := (Below.refl _ _).alloc (Nat.le_refl _) _
  have hs3 : (w2.alloc (.cells #[tb T, .string ⟨#[]⟩] 53)).heap.size = w2.heap.size + 1 := by simp
  obtain ⟨w3, hw3⟩ : ∃ w3, w2.alloc (.cells #[tb T, .string ⟨#[]⟩] 53) = w3 := ⟨_, rfl⟩
  rw [hw3] at hcu hb3 hs3 ⊢
  have hb4 : Below w3.heap.size w3 (w3.alloc (.cells #[.slice A2 t c2, .int .i64 (-1)] 33)) := (Below.refl _ _).alloc (Nat.le_refl _) _
  have hp4 : Pair2 w2 T A2 t c2 w2.heap.size w3.heap.size none (w3.alloc (.cells #[.slice A2 t c2, .int .i64 (-1)] 33)) :=
    ⟨hcu.below hb4, ⟨(HES.out.below hb3).below hb4, HTL.out, by omega, okP_none _, heap_alloc_new w3 _, fun ad h => by have := (HAD.out ad h).2; omega⟩, by omega, fun ad h => by have := (HAD.out ad h).2; omega, by omega, hc2⟩
  obtain ⟨w4, hw4⟩ : ∃ w4, w3.alloc (.cells #[.slice A2 t c2, .int .i64 (-1)] 33) = w4 := ⟨_, rfl⟩
  rw [hw4] at hp4 hb4
  have HB4 := Lib.hid (bthen HB2.out (bthen hb3 hb4))
  have HW4 := Lib.hid hw4
  have hbs : w3.heap.size = w2.heap.size + 1 := hs3
  rw [hbs] at hp4
  obtain ⟨br, hbr⟩ : ∃ br, w2.heap.size + 1 = br := ⟨_, rfl⟩
  obtain ⟨bc, hbc⟩ : ∃ bc, w2.heap.size = bc := ⟨_, rfl⟩
  have HBR : Hid (w.heap.size ≤ bc ∧ w.heap.size ≤ br) := Lib.hid (by have := HB2.out.size; omega)
  rw [hbr, hbc] at hp4
  have HP4 := Lib.hid hp4
  have HBC := Lib.hid hbc
  have HBE := Lib.hid hbr
  clear hbr hbc hcu hb3 hs3 hw3 hw4 hp4 hb4 HB2
  go_wp2_with fail
  rw [HW4.out, HBE.out, HBC.out]
  clear hbs
  go_loopw [40] (fun i wr => ∃ k : Nat, k ≤ m ∧ i = .int .i64 k ∧ Hid (∃ p, Pair2 w2 T A2 t c2 bc br p wr) ∧ Hid (Below w.heap.size w wr)) (fun i _ => m - (intOf i).toNat)
  case atStart => exact ⟨0, Nat.zero_le _, rfl, Lib.hid ⟨none, HP4.out⟩, HB4⟩
  case round =>
    obtain ⟨k, hk, rfl, HPr, HB⟩ := hrel
    clear HP4 HB4 HW4
    obtain ⟨p, hp⟩ := HPr.out
    have H := Lib.hid hp
    clear hp HPr
    by_cases hlt : k < m
    · obtain ⟨ad, x, rfl, hx, hl, g0, g1⟩ := HQ.out.ls.cuop_at (i := k) (by rw [HQ.out.len]; exact hlt)
      obtain ⟨kd, key⟩ := x
      simp only at g0 g1
      have r0 : wr.cell? (ad.add (k * 2)) = some (.int .i64 kd) := (HB.out.cell (by rw [block_of_add]; exact hl)).trans g0
      have HR1 : Hid (wr.cell? ⟨(ad.add (k * 2)).block, (ad.add (k * 2)).off + 1, none⟩ = some (.string key)) := Lib.hid ((HB.out.cell (by show (ad.add (k * 2)).block < _; rw [block_of_add]; exact hl)).trans g1)
      have HADL : Hid (ad.block < w.heap.size) := Lib.hid hl
      clear hx g0 g1 hl

      by_cases hk1 : kd = 1
      · subst hk1
        go_wp2_with fail
        refine (curFirst_any H.out.cu).mono ?_
        rintro e v1 ⟨rfl, hm, hc⟩
        have HH := Lib.hid (H.out.first hm hc)
        have HB1 := Lib.hid (HB.out.trans (Mv.below' hm HB.out.size HBR.out.1))
        clear hm hc
        go_wp2_with fail
        refine (refTo_any HH.out.rc 0 (by omega)).mono ?_
        rintro e v2 ⟨rfl, hm, hc⟩
        rw [show toP (tl T) 0 = mvFirst (tl T) from toP_nat (tl T) 0] at hc ⊢
        have H2 := Lib.hid (HH.out.second hm hc)
        have HB2 := Lib.hid (HB1.out.trans (Mv.below' hm HB1.out.size HBR.out.2))
        clear hm hc HH HB1 H HB r0 HR1
        obtain ⟨p2, hp2⟩ : ∃ p2, mvFirst (tl T) = p2 := ⟨_, rfl⟩
        rw [hp2] at H2
        obtain ⟨ek, hek⟩ : ∃ ek, keyO (entAt (tl T) p2) = ek := ⟨_, rfl⟩
        obtain ⟨ev, hev⟩ : ∃ ev, valO (entAt (tl T) p2) = ev := ⟨_, rfl⟩
        obtain ⟨ef, hef⟩ : ∃ ef, (entAt (tl T) p2).isSome = ef := ⟨_, rfl⟩
        have HA2 : Hid (ansV (entAt (tl T) p2) = .tuple #[.agg #[.string ek, .string ev], .bool ef]) := Lib.hid (by unfold ansV ansE; rw [hek, hev, hef])
        clear hek hev hef
        try rw [hp2]
        clear hp2
        obtain ⟨af, haf⟩ : ∃ af, p2.isSome = af := ⟨_, rfl⟩
        try rw [haf]
        clear haf
        go_wp2_with fail
        refine (curEntry_any H2.out.cu).mono ?_
        rw [HA2.out]
        rintro e v3 ⟨rfl, hb3⟩
        have HP3 := Lib.hid (H2.out.below hb3)
        have HB3 := Lib.hid (HB2.out.trans (hb3.mono HB2.out.size))
        have hba : Below v3.heap.size v3 (v3.alloc (.cells #[.string ek, .string ev] 39)) := (Below.refl _ _).alloc (Nat.le_refl _) _
        have hz := heap_alloc_new v3 (.cells #[.string ek, .string ev] 39)
        obtain ⟨v4, hv4⟩ : ∃ v4, v3.alloc (.cells #[.string ek, .string ev] 39) = v4 := ⟨_, rfl⟩
        rw [hv4] at hba hz
        have HP4 := Lib.hid (HP3.out.below hba)
        have HB4 := Lib.hid (HB3.out.trans (hba.mono HB3.out.size))
        have HV4 := Lib.hid hv4
        have HZ4 := Lib.hid hz
        clear hba hz hv4 hb3 H2 HB2 HP3 HB3
        go_wp2_with fail
        rw [HV4.out]
        refine (refEntry_any HP4.out.rc HP4.out.cap).mono ?_
        rw [HA2.out]
        rintro e v5 ⟨rfl, hb5⟩
        have hz5 := (hb5.block _ (at_lt HZ4.out)).trans HZ4.out
        have hz6 := (Below.heap_alloc v5 (.cells #[.string ek, .string ev] 39) _ (at_lt hz5)).trans hz5
        have q0 := cell_row hz6 0 _ rfl
        have q1 := cell_row hz6 1 _ rfl
        have hq := neq_same ek ev
        have HP5 : Hid (Pair2 w2 T A2 t c2 bc br p2 (v5.alloc (.cells #[.string ek, .string ev] 39))) := Lib.hid ((HP4.out.below hb5).below ((Below.refl _ _).alloc (Nat.le_refl _) _))
        have HB5 : Hid (Below w.heap.size w (v5.alloc (.cells #[.string ek, .string ev] 39))) := Lib.hid ((HB4.out.trans (hb5.mono HB4.out.size)).alloc (Nat.le_trans HB4.out.size hb5.size) _)
        clear hz5 hz6 hb5 HP4 HB4 HV4 HZ4 HA2
        go_wp2
        exact ⟨⟨k + 1, by omega, by go_num, Lib.hid ⟨p2, HP5.out⟩, HB5⟩, by simp [intOf]; omega⟩

      by_cases hk2 : kd = 2
      · subst hk2
        go_wp2_with fail
        refine (curLast_any H.out.cu).mono ?_
        rintro e v1 ⟨rfl, hm, hc⟩
        have HH := Lib.hid (H.out.first hm hc)
        have HB1 := Lib.hid (HB.out.trans (Mv.below' hm HB.out.size HBR.out.1))
        clear hm hc
        go_wp2_with fail
        refine (refTo_any HH.out.rc ((t : Int) - 1) (by omega)).mono ?_
        rintro e v2 ⟨rfl, hm, hc⟩
        rw [toP_last (tl T) HTL.out] at hc ⊢
        have H2 := Lib.hid (HH.out.second hm hc)
        have HB2 := Lib.hid (HB1.out.trans (Mv.below' hm HB1.out.size HBR.out.2))
        clear hm hc HH HB1 H HB r0 HR1
        obtain ⟨p2, hp2⟩ : ∃ p2, mvLast (tl T) = p2 := ⟨_, rfl⟩
        rw [hp2] at H2
        obtain ⟨ek, hek⟩ : ∃ ek, keyO (entAt (tl T) p2) = ek := ⟨_, rfl⟩
        obtain ⟨ev, hev⟩ : ∃ ev, valO (entAt (tl T) p2) = ev := ⟨_, rfl⟩
        obtain ⟨ef, hef⟩ : ∃ ef, (entAt (tl T) p2).isSome = ef := ⟨_, rfl⟩
        have HA2 : Hid (ansV (entAt (tl T) p2) = .tuple #[.agg #[.string ek, .string ev], .bool ef]) := Lib.hid (by unfold ansV ansE; rw [hek, hev, hef])
        clear hek hev hef
        try rw [hp2]
        clear hp2
        obtain ⟨af, haf⟩ : ∃ af, p2.isSome = af := ⟨_, rfl⟩
        try rw [haf]
        clear haf
        go_wp2_with fail
        refine (curEntry_any H2.out.cu).mono ?_
        rw [HA2.out]
        rintro e v3 ⟨rfl, hb3⟩
        have HP3 := Lib.hid (H2.out.below hb3)
        have HB3 := Lib.hid (HB2.out.trans (hb3.mono HB2.out.size))
        have hba : Below v3.heap.size v3 (v3.alloc (.cells #[.string ek, .string ev] 39)) := (Below.refl _ _).alloc (Nat.le_refl _) _
        have hz := heap_alloc_new v3 (.cells #[.string ek, .string ev] 39)
        obtain ⟨v4, hv4⟩ : ∃ v4, v3.alloc (.cells #[.string ek, .string ev] 39) = v4 := ⟨_, rfl⟩
        rw [hv4] at hba hz
        have HP4 := Lib.hid (HP3.out.below hba)
        have HB4 := Lib.hid (HB3.out.trans (hba.mono HB3.out.size))
        have HV4 := Lib.hid hv4
        have HZ4 := Lib.hid hz
        clear hba hz hv4 hb3 H2 HB2 HP3 HB3
        go_wp2_with fail
        rw [HV4.out]
        refine (refEntry_any HP4.out.rc HP4.out.cap).mono ?_
        rw [HA2.out]
        rintro e v5 ⟨rfl, hb5⟩
        have hz5 := (hb5.block _ (at_lt HZ4.out)).trans HZ4.out
        have hz6 := (Below.heap_alloc v5 (.cells #[.string ek, .string ev] 39) _ (at_lt hz5)).trans hz5
        have q0 := cell_row hz6 0 _ rfl
        have q1 := cell_row hz6 1 _ rfl
        have hq := neq_same ek ev
        have HP5 : Hid (Pair2 w2 T A2 t c2 bc br p2 (v5.alloc (.cells #[.string ek, .string ev] 39))) := Lib.hid ((HP4.out.below hb5).below ((Below.refl _ _).alloc (Nat.le_refl _) _))
        have HB5 : Hid (Below w.heap.size w (v5.alloc (.cells #[.string ek, .string ev] 39))) := Lib.hid ((HB4.out.trans (hb5.mono HB4.out.size)).alloc (Nat.le_trans HB4.out.size hb5.size) _)
        clear hz5 hz6 hb5 HP4 HB4 HV4 HZ4 HA2
        go_wp2
        exact ⟨⟨k + 1, by omega, by go_num, Lib.hid ⟨p2, HP5.out⟩, HB5⟩, by simp [intOf]; omega⟩

      by_cases hk3 : kd = 3
      · subst hk3
        obtain ⟨wd, hwd⟩ : ∃ wd, wr.drew = wd := ⟨_, rfl⟩
        have hbd : Below wr.heap.size wr wd := by rw [← hwd]; exact (Below.refl _ _).drew
        have HD := Lib.hid (H.out.below hbd)
        have HBD := Lib.hid (HB.out.trans (hbd.mono HB.out.size))
        have HWD := Lib.hid hwd
        have hnb : (ad.add (k * 2)).block ∉ [bc, br] := by
          rw [block_of_add]
          have h1 := HADL.out
          have h2 := HBR.out
          simp
          omega
        have hlt2 : (ad.add (k * 2)).block < wd.heap.size := by rw [block_of_add]; exact Nat.lt_of_lt_of_le HADL.out HBD.out.size
        have hk0 : ∀ q' : Dc.Past [bc, br] wd, q'.val.cell? ⟨(ad.add (k * 2)).block, (ad.add (k * 2)).off + 1, none⟩ = some (.string key) := fun q' => (q'.ok.cell (p := ⟨(ad.add (k * 2)).block, (ad.add (k * 2)).off + 1, none⟩) hlt2 hnb).trans ((hbd.cell (p := ⟨(ad.add (k * 2)).block, (ad.add (k * 2)).off + 1, none⟩) (by show (ad.add (k * 2)).block < _; rw [block_of_add]; exact Nat.lt_of_lt_of_le HADL.out HB.out.size)).trans HR1.out)
        clear hwd hbd hnb hlt2
        go_wp2
        refine Dc.wp_region_segs 15 [bc, br] [([0, 1, 2, 3, 4, 5, 7, 8, 9, 10, 11, 12], 6), ([], 13)] [14, 15] (by kernel_rfl) (by kernel_rfl) (by kernel_rfl) (by kernel_rfl) (by kernel_rfl) (by intro c a d v w h; cases d <;> exact h) ?_
        rw [HWD.out]
        refine Dc.wpSegs_more ?_
        simp only [Dc.pick, List.getElem?_cons_zero, List.getElem?_cons_succ]
        repeat (first | go_big_quiet_step (fail) | quiet_step (fail))
        refine wpQuiet_nil ?_
        refine Dc.wpOp_heavy rfl (by rfl) (fun K hK => ?_)
        go_simp
        refine (curSeek_any HD.out.cu key).mono ?_
        rintro e v1 ⟨rfl, hm, hc⟩
        have HH := Lib.hid (HD.out.first hm hc)
        have HB1 := Lib.hid (HBD.out.trans (Mv.below' hm HBD.out.size HBR.out.1))
        refine hK _ _ (fun _ => but_of_mv hm (by simp)) ?_
        clear hm hc hK K hk0
        refine Dc.wpSegs_more ?_
        simp only [Dc.pick]
        refine wpQuiet_nil ?_
        refine Dc.wpOp_heavy rfl (by rfl) (fun K hK => ?_)
        go_simp
        refine (refSeek_any HH.out.rc HT.out.sorted key).mono ?_
        rintro e v2 ⟨rfl, hm, hc⟩
        have H2 := Lib.hid (HH.out.second hm hc)
        have HB2 := Lib.hid (HB1.out.trans (Mv.below' hm HB1.out.size HBR.out.2))
        refine hK _ _ (fun _ => but_of_mv hm (by simp)) ?_
        clear hm hc hK K HH HB1 H HB r0 HR1 HD HBD HWD
        refine Dc.wpSegs_last ?_
        simp only [Dc.pick, List.getElem?_cons_zero, List.getElem?_cons_succ]
        repeat (first | go_big_quiet_step (fail) | quiet_step (fail))
        refine wpQuiet_nil ?_

        obtain ⟨p2, hp2⟩ : ∃ p2, mvSeek (tl T) key = p2 := ⟨_, rfl⟩
        rw [hp2] at H2
        obtain ⟨ek, hek⟩ : ∃ ek, keyO (entAt (tl T) p2) = ek := ⟨_, rfl⟩
        obtain ⟨ev, hev⟩ : ∃ ev, valO (entAt (tl T) p2) = ev := ⟨_, rfl⟩
        obtain ⟨ef, hef⟩ : ∃ ef, (entAt (tl T) p2).isSome = ef := ⟨_, rfl⟩
        have HA2 : Hid (ansV (entAt (tl T) p2) = .tuple #[.agg #[.string ek, .string ev], .bool ef]) := Lib.hid (by unfold ansV ansE; rw [hek, hev, hef])
        clear hek hev hef
        try rw [hp2]
        clear hp2
        obtain ⟨af, haf⟩ : ∃ af, p2.isSome = af := ⟨_, rfl⟩
        try rw [haf]
        clear haf
        go_wp2_with fail
        refine (curEntry_any H2.out.cu).mono ?_
        rw [HA2.out]
        rintro e v3 ⟨rfl, hb3⟩
        have HP3 := Lib.hid (H2.out.below hb3)
        have HB3 := Lib.hid (HB2.out.trans (hb3.mono HB2.out.size))
        have hba : Below v3.heap.size v3 (v3.alloc (.cells #[.string ek, .string ev] 39)) := (Below.refl _ _).alloc (Nat.le_refl _) _
        have hz := heap_alloc_new v3 (.cells #[.string ek, .string ev] 39)
        obtain ⟨v4, hv4⟩ : ∃ v4, v3.alloc (.cells #[.string ek, .string ev] 39) = v4 := ⟨_, rfl⟩
        rw [hv4] at hba hz
        have HP4 := Lib.hid (HP3.out.below hba)
        have HB4 := Lib.hid (HB3.out.trans (hba.mono HB3.out.size))
        have HV4 := Lib.hid hv4
        have HZ4 := Lib.hid hz
        clear hba hz hv4 hb3 H2 HB2 HP3 HB3
        go_wp2_with fail
        rw [HV4.out]
        refine (refEntry_any HP4.out.rc HP4.out.cap).mono ?_
        rw [HA2.out]
        rintro e v5 ⟨rfl, hb5⟩
        have hz5 := (hb5.block _ (at_lt HZ4.out)).trans HZ4.out
        have hz6 := (Below.heap_alloc v5 (.cells #[.string ek, .string ev] 39) _ (at_lt hz5)).trans hz5
        have q0 := cell_row hz6 0 _ rfl
        have q1 := cell_row hz6 1 _ rfl
        have hq := neq_same ek ev
        have HP5 : Hid (Pair2 w2 T A2 t c2 bc br p2 (v5.alloc (.cells #[.string ek, .string ev] 39))) := Lib.hid ((HP4.out.below hb5).below ((Below.refl _ _).alloc (Nat.le_refl _) _))
        have HB5 : Hid (Below w.heap.size w (v5.alloc (.cells #[.string ek, .string ev] 39))) := Lib.hid ((HB4.out.trans (hb5.mono HB4.out.size)).alloc (Nat.le_trans HB4.out.size hb5.size) _)
        clear hz5 hz6 hb5 HP4 HB4 HV4 HZ4 HA2
        go_wp2
        exact ⟨⟨k + 1, by omega, by go_num, Lib.hid ⟨p2, HP5.out⟩, HB5⟩, by simp [intOf]; omega⟩

      by_cases hk4 : kd = 4
      · subst hk4
        go_wp2_with fail
        refine (curNext_any H.out.cu).mono ?_
        rintro e v1 ⟨rfl, hm, hc⟩
        have HH := Lib.hid (H.out.first hm hc)
        have HB1 := Lib.hid (HB.out.trans (Mv.below' hm HB.out.size HBR.out.1))
        clear hm hc
        go_wp2_with fail
        refine (refGo_any HH.out.rc 1 (.inl rfl)).mono ?_
        rintro e v2 ⟨rfl, hm, hc⟩
        rw [goP_next] at hc ⊢
        have H2 := Lib.hid (HH.out.second hm hc)
        have HB2 := Lib.hid (HB1.out.trans (Mv.below' hm HB1.out.size HBR.out.2))
        clear hm hc HH HB1 H HB r0 HR1
        obtain ⟨p2, hp2⟩ : ∃ p2, mvNext (tl T) p = p2 := ⟨_, rfl⟩
        rw [hp2] at H2
        obtain ⟨ek, hek⟩ : ∃ ek, keyO (entAt (tl T) p2) = ek := ⟨_, rfl⟩
        obtain ⟨ev, hev⟩ : ∃ ev, valO (entAt (tl T) p2) = ev := ⟨_, rfl⟩
        obtain ⟨ef, hef⟩ : ∃ ef, (entAt (tl T) p2).isSome = ef := ⟨_, rfl⟩
        have HA2 : Hid (ansV (entAt (tl T) p2) = .tuple #[.agg #[.string ek, .string ev], .bool ef]) := Lib.hid (by unfold ansV ansE; rw [hek, hev, hef])
        clear hek hev hef
        try rw [hp2]
        clear hp2
        obtain ⟨af, haf⟩ : ∃ af, p2.isSome = af := ⟨_, rfl⟩
        try rw [haf]
        clear haf
        go_wp2_with fail
        refine (curEntry_any H2.out.cu).mono ?_
        rw [HA2.out]
        rintro e v3 ⟨rfl, hb3⟩
        have HP3 := Lib.hid (H2.out.below hb3)
        have HB3 := Lib.hid (HB2.out.trans (hb3.mono HB2.out.size))
        have hba : Below v3.heap.size v3 (v3.alloc (.cells #[.string ek, .string ev] 39)) := (Below.refl _ _).alloc (Nat.le_refl _) _
        have hz := heap_alloc_new v3 (.cells #[.string ek, .string ev] 39)
        obtain ⟨v4, hv4⟩ : ∃ v4, v3.alloc (.cells #[.string ek, .string ev] 39) = v4 := ⟨_, rfl⟩
        rw [hv4] at hba hz
        have HP4 := Lib.hid (HP3.out.below hba)
        have HB4 := Lib.hid (HB3.out.trans (hba.mono HB3.out.size))
        have HV4 := Lib.hid hv4
        have HZ4 := Lib.hid hz
        clear hba hz hv4 hb3 H2 HB2 HP3 HB3
        go_wp2_with fail
        rw [HV4.out]
        refine (refEntry_any HP4.out.rc HP4.out.cap).mono ?_
        rw [HA2.out]
        rintro e v5 ⟨rfl, hb5⟩
        have hz5 := (hb5.block _ (at_lt HZ4.out)).trans HZ4.out
        have hz6 := (Below.heap_alloc v5 (.cells #[.string ek, .string ev] 39) _ (at_lt hz5)).trans hz5
        have q0 := cell_row hz6 0 _ rfl
        have q1 := cell_row hz6 1 _ rfl
        have hq := neq_same ek ev
        have HP5 : Hid (Pair2 w2 T A2 t c2 bc br p2 (v5.alloc (.cells #[.string ek, .string ev] 39))) := Lib.hid ((HP4.out.below hb5).below ((Below.refl _ _).alloc (Nat.le_refl _) _))
        have HB5 : Hid (Below w.heap.size w (v5.alloc (.cells #[.string ek, .string ev] 39))) := Lib.hid ((HB4.out.trans (hb5.mono HB4.out.size)).alloc (Nat.le_trans HB4.out.size hb5.size) _)
        clear hz5 hz6 hb5 HP4 HB4 HV4 HZ4 HA2
        go_wp2
        exact ⟨⟨k + 1, by omega, by go_num, Lib.hid ⟨p2, HP5.out⟩, HB5⟩, by simp [intOf]; omega⟩

      by_cases hk5 : kd = 5
      · subst hk5
        go_wp2_with fail
        refine (curPrev_any H.out.cu).mono ?_
        rintro e v1 ⟨rfl, hm, hc⟩
        have HH := Lib.hid (H.out.first hm hc)
        have HB1 := Lib.hid (HB.out.trans (Mv.below' hm HB.out.size HBR.out.1))
        clear hm hc
        go_wp2_with fail
        refine (refGo_any HH.out.rc (-1) (.inr rfl)).mono ?_
        rintro e v2 ⟨rfl, hm, hc⟩
        rw [goP_prev] at hc ⊢
        have H2 := Lib.hid (HH.out.second hm hc)
        have HB2 := Lib.hid (HB1.out.trans (Mv.below' hm HB1.out.size HBR.out.2))
        clear hm hc HH HB1 H HB r0 HR1
        obtain ⟨p2, hp2⟩ : ∃ p2, mvPrev (tl T) p = p2 := ⟨_, rfl⟩
        rw [hp2] at H2
        obtain ⟨ek, hek⟩ : ∃ ek, keyO (entAt (tl T) p2) = ek := ⟨_, rfl⟩
        obtain ⟨ev, hev⟩ : ∃ ev, valO (entAt (tl T) p2) = ev := ⟨_, rfl⟩
        obtain ⟨ef, hef⟩ : ∃ ef, (entAt (tl T) p2).isSome = ef := ⟨_, rfl⟩
        have HA2 : Hid (ansV (entAt (tl T) p2) = .tuple #[.agg #[.string ek, .string ev], .bool ef]) := Lib.hid (by unfold ansV ansE; rw [hek, hev, hef])
        clear hek hev hef
        try rw [hp2]
        clear hp2
        obtain ⟨af, haf⟩ : ∃ af, p2.isSome = af := ⟨_, rfl⟩
        try rw [haf]
        clear haf
        go_wp2_with fail
        refine (curEntry_any H2.out.cu).mono ?_
        rw [HA2.out]
        rintro e v3 ⟨rfl, hb3⟩
        have HP3 := Lib.hid (H2.out.below hb3)
        have HB3 := Lib.hid (HB2.out.trans (hb3.mono HB2.out.size))
        have hba : Below v3.heap.size v3 (v3.alloc (.cells #[.string ek, .string ev] 39)) := (Below.refl _ _).alloc (Nat.le_refl _) _
        have hz := heap_alloc_new v3 (.cells #[.string ek, .string ev] 39)
        obtain ⟨v4, hv4⟩ : ∃ v4, v3.alloc (.cells #[.string ek, .string ev] 39) = v4 := ⟨_, rfl⟩
        rw [hv4] at hba hz
        have HP4 := Lib.hid (HP3.out.below hba)
        have HB4 := Lib.hid (HB3.out.trans (hba.mono HB3.out.size))
        have HV4 := Lib.hid hv4
        have HZ4 := Lib.hid hz
        clear hba hz hv4 hb3 H2 HB2 HP3 HB3
        go_wp2_with fail
        rw [HV4.out]
        refine (refEntry_any HP4.out.rc HP4.out.cap).mono ?_
        rw [HA2.out]
        rintro e v5 ⟨rfl, hb5⟩
        have hz5 := (hb5.block _ (at_lt HZ4.out)).trans HZ4.out
        have hz6 := (Below.heap_alloc v5 (.cells #[.string ek, .string ev] 39) _ (at_lt hz5)).trans hz5
        have q0 := cell_row hz6 0 _ rfl
        have q1 := cell_row hz6 1 _ rfl
        have hq := neq_same ek ev
        have HP5 : Hid (Pair2 w2 T A2 t c2 bc br p2 (v5.alloc (.cells #[.string ek, .string ev] 39))) := Lib.hid ((HP4.out.below hb5).below ((Below.refl _ _).alloc (Nat.le_refl _) _))
        have HB5 : Hid (Below w.heap.size w (v5.alloc (.cells #[.string ek, .string ev] 39))) := Lib.hid ((HB4.out.trans (hb5.mono HB4.out.size)).alloc (Nat.le_trans HB4.out.size hb5.size) _)
        clear hz5 hz6 hb5 HP4 HB4 HV4 HZ4 HA2
        go_wp2
        exact ⟨⟨k + 1, by omega, by go_num, Lib.hid ⟨p2, HP5.out⟩, HB5⟩, by simp [intOf]; omega⟩

      have H2 := H
      have HB2 := HB
      clear H HB HR1 HADL

      obtain ⟨p2, hp2⟩ : ∃ p2, p = p2 := ⟨_, rfl⟩
      rw [hp2] at H2
      obtain ⟨ek, hek⟩ : ∃ ek, keyO (entAt (tl T) p2) = ek := ⟨_, rfl⟩
      obtain ⟨ev, hev⟩ : ∃ ev, valO (entAt (tl T) p2) = ev := ⟨_, rfl⟩
      obtain ⟨ef, hef⟩ : ∃ ef, (entAt (tl T) p2).isSome = ef := ⟨_, rfl⟩
      have HA2 : Hid (ansV (entAt (tl T) p2) = .tuple #[.agg #[.string ek, .string ev], .bool ef]) := Lib.hid (by unfold ansV ansE; rw [hek, hev, hef])
      clear hek hev hef
      try rw [hp2]
      clear hp2
      go_wp2_with fail
      refine (curEntry_any H2.out.cu).mono ?_
      rw [HA2.out]
      rintro e v3 ⟨rfl, hb3⟩
      have HP3 := Lib.hid (H2.out.below hb3)
      have HB3 := Lib.hid (HB2.out.trans (hb3.mono HB2.out.size))
      have hba : Below v3.heap.size v3 (v3.alloc (.cells #[.string ek, .string ev] 39)) := (Below.refl _ _).alloc (Nat.le_refl _) _
      have hz := heap_alloc_new v3 (.cells #[.string ek, .string ev] 39)
      obtain ⟨v4, hv4⟩ : ∃ v4, v3.alloc (.cells #[.string ek, .string ev] 39) = v4 := ⟨_, rfl⟩
      rw [hv4] at hba hz
      have HP4 := Lib.hid (HP3.out.below hba)
      have HB4 := Lib.hid (HB3.out.trans (hba.mono HB3.out.size))
      have HV4 := Lib.hid hv4
      have HZ4 := Lib.hid hz
      clear hba hz hv4 hb3 H2 HB2 HP3 HB3
      go_wp2_with fail
      rw [HV4.out]
      refine (refEntry_any HP4.out.rc HP4.out.cap).mono ?_
      rw [HA2.out]
      rintro e v5 ⟨rfl, hb5⟩
      have hz5 := (hb5.block _ (at_lt HZ4.out)).trans HZ4.out
      have hz6 := (Below.heap_alloc v5 (.cells #[.string ek, .string ev] 39) _ (at_lt hz5)).trans hz5
      have q0 := cell_row hz6 0 _ rfl
      have q1 := cell_row hz6 1 _ rfl
      have hq := neq_same ek ev
      have HP5 : Hid (Pair2 w2 T A2 t c2 bc br p2 (v5.alloc (.cells #[.string ek, .string ev] 39))) := Lib.hid ((HP4.out.below hb5).below ((Below.refl _ _).alloc (Nat.le_refl _) _))
      have HB5 : Hid (Below w.heap.size w (v5.alloc (.cells #[.string ek, .string ev] 39))) := Lib.hid ((HB4.out.trans (hb5.mono HB4.out.size)).alloc (Nat.le_trans HB4.out.size hb5.size) _)
      clear hz5 hz6 hb5 HP4 HB4 HV4 HZ4 HA2
      go_wp2
      exact ⟨⟨k + 1, by omega, by go_num, Lib.hid ⟨p2, HP5.out⟩, HB5⟩, by simp [intOf]; omega⟩

    · have he : k = m := by omega
      subst he
      go_wp2
      go_ret
      exact ⟨rfl, HB.out⟩

end Go.Proofs.Ytkooaechcbopnaa


namespace Go.Proofs.Ytkooaechcbopnaa.cursorPlays
open Go.ChangeShapes Go.WideShapes Go.ChangeAt Go.RowKit
open Go.ChangeMaps (open_string shut_string)
set_option linter.unusedVariables false

theorem own : ownKnob Try.prog.godebug = none := by kernel_rfl
theorem laidOut : laidOutB Try.prog = true := by kernel_rfl

set_option maxRecDepth 100000 in
theorem lifted (os : Os) (started : os.Started) (H : Type) (enc : TypeId × Value → H) :
    ReturnsInHanded {} Try.checked os 3 .any (Rows.cursorPlaysSpec.pre6 enc Try.prog Try.f3 Rows.cursorPlaysRow.domain false) (Rows.cursorPlaysSpec.post enc Try.prog Try.f3 false true false false) := by
  refine returnsInHanded_of_change_sized (C := Try.checked) own started (by kernel_rfl) Try.func3
    (ChangeSpec.witness6 (enc := enc) (C := Try.checked) false ⟨#[], #[.slice none 0 0, .slice none 0 0], []⟩ 8 (by kernel_rfl) (by kernel_rfl) (by kernel_rfl) (by kernel_rfl)) ?_
  intro W base args ds gs before hval0 hW hcnd hsz0 _
  have hval : ∀ (j : Nat) t v, Try.f3.params[j]? = some t → args[j]? = some v → Value.okWide Try.prog W .any base t v := hval0
  have hsz : (DataW.weightsEach Try.prog (Try.f3.params.toList ++ Rows.cursorPlaysSpec.plain.varTypes Try.prog) (ds ++ gs)).all (· ≤ reachBytes) = true := hsz0
  have hW' := hW
  obtain ⟨p, q, hA0, hV, rfl, hfz, hnd⟩ := hW
  have hA : DataW.TrodAll enc Try.prog W 0 (fun _ => true) true Try.f3.params.toList args.toList ds p := hA0
  rw [Try.params3] at hA hval hsz
  obtain ⟨v0, vs0, d0, ds0, p0, q0, hargs, rfl, rfl, h0, r0⟩ := trodAll_cons hA
  obtain ⟨v1, vs1, d1, ds1, p1, q1, rfl, rfl, rfl, h1, r1⟩ := trodAll_cons r0
  obtain ⟨rfl, rfl, rfl⟩ := trodAll_nil r1
  obtain rfl : args = #[v0, v1] := by cases args; simp_all
  obtain ⟨rfl, rfl⟩ := trodVars_none hV
  obtain ⟨A0, n0, c0, rfl⟩ := okWide_slice Try.underlying22 (hval 0 22 v0 rfl rfl)
  have k0 := h0
  have lt0 : ∀ x ∈ p0, x.block < W.heap.size := by obtain ⟨m, hm⟩ := k0; exact DataW.trod_lt m _ _ _ hm
  obtain ⟨l0, w0⟩ := open_ents h0 (fun m hm => of_decide_eq_true (List.all_eq_true.1 hsz _ (DataW.weights_mem_each (j := 0) (t := 22) rfl rfl m hm)))
  obtain ⟨A1, n1, c1, rfl⟩ := okWide_slice Try.underlying23 (hval 1 23 v1 rfl rfl)
  have k1 := h1
  have lt1 : ∀ x ∈ p1, x.block < W.heap.size := by obtain ⟨m, hm⟩ := k1; exact DataW.trod_lt m _ _ _ hm
  obtain ⟨l1, w1⟩ := open_cuops h1 (fun m hm => of_decide_eq_true (List.all_eq_true.1 hsz _ (DataW.weights_mem_each (j := 1) (t := 23) rfl rfl m hm)))
  clear hA0 hval0 hsz hsz0
  refine (cursorPlays_walk A0 n0 c0 l0 A1 n1 c1 l1 W w0 w1).mono fun e W' ⟨he, bel⟩ => ?_
  subst he
  exact ⟨_, rfl, _, _, _, [], _, [], hW', trodAll_mk1 (shut_bool Try.underlying4 _), (trodAll_cons_mk (Below.trod laidOut (by kernel_rfl) (of_decide_eq_true (by kernel_rfl)) k0 bel lt0) (trodAll_cons_mk (Below.trod laidOut (by kernel_rfl) (of_decide_eq_true (by kernel_rfl)) k1 bel lt1) trodAll_mk0)), rfl, bel.frame _, fun h => by cases h⟩

theorem over : Rows.cursorPlaysRow.holds Try.pinned (OpenSpec.ofChange Rows.cursorPlaysSpec) :=
  OpenClaim.holds_of_wide 3 Try.f3 rfl rfl rfl rfl rfl rfl rfl ⟨rfl, rfl, rfl, rfl, rfl⟩ rfl rfl rfl rfl rfl (by kernel_rfl) Try.func3 (by kernel_rfl)
    (of_decide_eq_true (by kernel_rfl)) (by unfold Func.isWrapper; first | (rw [if_pos (by decide +kernel)]; kernel_rfl) | (rw [if_neg (by decide +kernel)]; exact ⟨rfl, rfl⟩))
    (fun os started H enc _ => lifted os started H enc)

theorem proved : Rows.CursorPlaysSaid := over
#print axioms proved

end Go.Proofs.Ytkooaechcbopnaa.cursorPlays
