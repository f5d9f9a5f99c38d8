/-
  DeviceLast: of writes of one page the last one is read, and, synced, stays; other pages stay as they are; for all bytes and pages; no condition beyond the row's.
-/
import Derived.Test.YthjgcbpanfiacaaDevTools
namespace Go.Proofs.Ythjgcbpanfiacaa
open Go.RowKit Go.Sort Go.ChangeShapes Go.WideShapes
set_option linter.unusedVariables false

/-- The writes, behind k of them. -/
def lastPd (p q : Nat) (l : List UInt8) (k : Nat) : List WR := fullW q 9 :: (l.take k).map (fullW p)
theorem lastPd_len (p q : Nat) (l : List UInt8) (k : Nat) : (lastPd p q l k).length ≤ l.length + 1 := by simp [lastPd]; omega
theorem lastPd_succ {p q : Nat} {l : List UInt8} {k : Nat} {x : UInt8} (h : l[k]? = some x) : lastPd p q l k ++ [fullW p x] = lastPd p q l (k + 1) := by
  have hk := (List.getElem?_eq_some_iff.1 h)
  obtain ⟨hk, rfl⟩ := hk
  rw [lastPd, lastPd, List.take_succ_eq_append_getElem hk, List.map_append]
  rfl
theorem lastPd_cur {st : List UInt8} {p q : Nat} {l : List UInt8} {k : Nat} {x : UInt8} (h : l[k]? = some x) : curN st (lastPd p q l (k + 1)) p (lastPd p q l (k + 1)).length = (fullW p x).bytes := by
  rw [← lastPd_succ h, cur_snoc, if_pos (by rfl)]
theorem lastPd_other {st : List UInt8} {p q : Nat} (hpq : p ≠ q) {l : List UInt8} {k : Nat} : curN st (lastPd p q l k) q (lastPd p q l k).length = (fullW q 9).bytes := by
  have e : (lastPd p q l k).length = 0 + 1 + ((l.take k).map (fullW p)).length := by simp [lastPd]; omega
  rw [e]
  refine cur_last (x := fullW q 9) rfl rfl _ (fun j y h1 h2 h3 => ?_)
  obtain ⟨j, rfl⟩ : ∃ i, j = i + 1 := ⟨j - 1, by omega⟩
  simp only [lastPd, List.getElem?_cons_succ] at h3
  obtain ⟨z, _, rfl⟩ := List.mem_map.1 (List.mem_of_getElem? h3)
  exact hpq

set_option maxRecDepth 100000 in
set_option maxHeartbeats 4000000 in
theorem deviceLast_walk (A : Option Addr) (n c : Nat) (l : List UInt8) (i0 j0 : Int) (w : World) (ha : ArgB w A n c l) (hi0 : (Lit.int .u8 i0).wf = true) (hj0 : (Lit.int .u8 j0).wf = true) :
    Calls Try.prog 8 #[.slice A n c, .int .u8 i0, .int .u8 j0] w fun e w' => e = .returned (.bool true) ∧ Below w.heap.size w w' := by
  obtain ⟨y, rfl⟩ := byte_of hi0
  obtain ⟨z, rfl⟩ := byte_of hj0
  obtain ⟨p, hp⟩ : ∃ p, p = y.toNat := ⟨_, rfl⟩
  have hpl : p < 256 := by rw [hp]; exact y.toNat_lt
  obtain ⟨q, hq⟩ : ∃ q, q = z.toNat := ⟨_, rfl⟩
  have hql : q < 256 := by rw [hq]; exact z.toNat_lt
  rw [← hp, ← hq]
  clear hp hq hi0 hj0
  obtain ⟨hlen, hcap, hsm, hrd⟩ := ha
  have HL := Lib.hid hlen
  have HRD := Lib.hid hrd
  clear hlen hrd
  by_cases hg : n = 0 ∨ 100 < n ∨ p = q
  · go_enter Try.func8, Try.ntmps8
    go_wp2_with fail
    refine (devAwake_any w).mono ?_
    rintro e w1 ⟨rfl, hb1⟩
    rcases hg with rfl | hg | rfl
    · go_wp2_with fail
      refine (devAwake_any w1).mono ?_
      rintro e w2 ⟨rfl, hb2⟩
      go_wp2
      go_ret
      exact ⟨rfl, bthen hb1 hb2⟩
    · go_wp2_with fail
      refine (devAwake_any w1).mono ?_
      rintro e w2 ⟨rfl, hb2⟩
      go_wp2
      go_ret
      exact ⟨rfl, bthen hb1 hb2⟩
    · by_cases h0 : n = 0
      · subst h0
        go_wp2_with fail
        refine (devAwake_any w1).mono ?_
        rintro e w2 ⟨rfl, hb2⟩
        go_wp2
        go_ret
        exact ⟨rfl, bthen hb1 hb2⟩
      by_cases h1 : 100 < n
      · go_wp2_with fail
        refine (devAwake_any w1).mono ?_
        rintro e w2 ⟨rfl, hb2⟩
        go_wp2
        go_ret
        exact ⟨rfl, bthen hb1 hb2⟩
      go_wp2_with fail
      refine (devAwake_any w1).mono ?_
      rintro e w2 ⟨rfl, hb2⟩
      go_wp2
      go_ret
      exact ⟨rfl, bthen hb1 hb2⟩
  obtain ⟨hn0, hn1, hpq⟩ : n ≠ 0 ∧ n ≤ 100 ∧ p ≠ q := by omega
  clear hg
  have hg1 : ((n : Int) == 0) = false := by simp; omega
  have hg2 : ((p : Int) == (q : Int)) = false := by simp; omega
  go_enter Try.func8, Try.ntmps8
  go_wp2_with fail
  refine (devAwake_any w).mono ?_
  rintro e w1 ⟨rfl, hb1⟩
  go_wp2_with fail
  refine (newB_any 256 w1).mono ?_
  rintro e w2 ⟨b, rfl, hd2, hb2⟩
  rw [show pagesN 256 = 256 from rfl] at hd2
  have HB2 := Lib.hid (bthen hb1 hb2)
  have HD2 := Lib.hid hd2
  have hw1 := hb1.size
  clear hd2 hb1 hb2
  generalize List.replicate (256 * 256) (0 : UInt8) = st at HD2
  go_wp2_with fail
  refine (full_any 9 w2).mono ?_
  rintro e w3 ⟨g, rfl, hg, hrow, hb3⟩
  have HD3 := Lib.hid (HD2.out.below hb3)
  have HB3 := Lib.hid (bthen HB2.out hb3)
  have HR3 := Lib.hid hrow
  clear hrow hb3 HD2 HB2 hg
  go_wp2_with fail
  refine (writeFullB_any q 9 g 256 HD3.out hql HR3.out (by simp)).mono ?_
  rintro e w4 ⟨rfl, hd4, hb4⟩
  have HD4 := Lib.hid (show DevB w1.heap.size w4 b 256 st (lastPd p q l 0) from hd4)
  have HB4 := Lib.hid (HB3.out.trans (hb4.mono hw1))
  clear hd4 hb4 HD3 HB3 HR3
  go_wp2
  simp only [show decide (100 < (n : Int)) = false from decide_eq_false (by omega)]
  go_loopw [47] (fun i wr => ∃ k : Nat, k ≤ n ∧ i = .int .i64 k ∧ Hid (DevB w1.heap.size wr b 256 st (lastPd p q l k)) ∧ Hid (Below w.heap.size w wr)) (fun i _ => n - (intOf i).toNat)
  case atStart => exact ⟨0, Nat.zero_le _, rfl, HD4, HB4⟩
  case round =>
    obtain ⟨k, hk, rfl, HD, HB⟩ := hrel
    clear HD4 HB4
    by_cases hlt : k < n
    · obtain ⟨ad, x, rfl, hx, hl, hc⟩ := (HRD.out.below HB.out).at_ (i := k) (by rw [HL.out]; exact hlt)
      have HX := Lib.hid hx
      clear hx
      go_wp2_with fail
      refine (full_any x wr).mono ?_
      rintro e w5 ⟨g5, rfl, hg5, hrow5, hb5⟩
      have HD5 := Lib.hid (HD.out.below hb5)
      have HB5 := Lib.hid (bthen HB.out hb5)
      have HR5 := Lib.hid hrow5
      clear hrow5 hb5 HD HB hg5 hc
      go_wp2_with fail
      refine (writeFullB_any p x g5 256 HD5.out hpl HR5.out (by have := lastPd_len p q l k; rw [HL.out] at this; omega)).mono ?_
      rintro e w6 ⟨rfl, hd6, hb6⟩
      have HD6 := Lib.hid hd6
      have HB6 := Lib.hid (HB5.out.trans (hb6.mono hw1))
      clear hd6 hb6 HD5 HB5 HR5
      go_wp2
      refine ⟨⟨k + 1, by omega, by go_num, ?_, HB6⟩, by simp [intOf]; omega⟩
      rw [← lastPd_succ HX.out]
      exact HD6
    obtain rfl : k = n := by omega
    obtain ⟨m, rfl⟩ : ∃ m, k = m + 1 := ⟨k - 1, by omega⟩
    have hpdl : (lastPd p q l (m + 1)).length ≤ 1000000 := by have := lastPd_len p q l (m + 1); rw [HL.out] at this; omega
    go_wp2_with fail
    refine (read_any p HD.out.2 hpl hpdl).mono ?_
    rintro e w5 ⟨g5, rfl, hg5, hrow5, hb5⟩
    obtain ⟨ad, x, rfl, hx, hl, hcx⟩ := HRD.out.at_ (i := m) (by rw [HL.out]; omega)
    rw [lastPd_cur hx] at hrow5
    have HX := Lib.hid hx
    have HR5 := Lib.hid hrow5
    have HD5 := Lib.hid (HD.out.2.tight.below hb5)
    have HB5 := Lib.hid (bthen HB.out hb5)
    have HCX := Lib.hid hcx
    have hg5l := lt_of_block hrow5
    have HC1 := Lib.hid (cur_synced HD.out.lens.1 HD.out.lens.2.2 hpl)
    have HC2 := Lib.hid (cur_synced HD.out.lens.1 HD.out.lens.2.2 hql)
    have hB : ∀ i, (w1.heap.size ≤ i ∧ i < wr.heap.size) → w.heap.size ≤ i := fun i hi => Nat.le_trans hw1 hi.1
    have hG5 : ¬ (w1.heap.size ≤ g5 ∧ g5 < wr.heap.size) := by omega
    have HBF := Lib.hid hB
    have HG5 := Lib.hid hG5
    clear hx hrow5 hb5 HD HB hcx hB hG5
    go_wp2_with fail
    refine (sync_any HD5.out hpdl).mono ?_
    rintro e w6 ⟨rfl, hd6, hk6⟩
    have HR6 := Lib.hid ((hk6.block g5 hg5l HG5.out).trans HR5.out)
    have HD6 := Lib.hid hd6
    have HB6 := Lib.hid (HB5.out.trans (hk6.below HB5.out.size HBF.out))
    clear hd6 hk6 HR5 HD5 HB5 hg5l
    go_wp2_with fail
    refine (crash_any 0 0 0 HD6.out (by simp) (by omega)).mono ?_
    rintro e w7 ⟨rfl, hd7, hk7⟩
    rw [show crashN 0 0 0 (allN st (lastPd p q l (m + 1)) (lastPd p q l (m + 1)).length) [] ([] : List WR).length = allN st (lastPd p q l (m + 1)) (lastPd p q l (m + 1)).length from rfl] at hd7
    have HR7 := Lib.hid ((hk7.block g5 (lt_of_block HR6.out) HG5.out).trans HR6.out)
    have HD7 := Lib.hid hd7
    have HB7 := Lib.hid (HB6.out.trans (hk7.below HB6.out.size HBF.out))
    clear hd7 hk7 HR6 HD6 HB6 HBF HG5
    go_wp2_with fail
    refine (read_any p HD7.out hpl (by simp)).mono ?_
    rintro e w8 ⟨g8, rfl, hg8, hrow8, hb8⟩
    rw [HC1.out, lastPd_cur HX.out] at hrow8
    have HR8 := Lib.hid ((hb8.block g5 (lt_of_block HR7.out)).trans HR7.out)
    have HR8b := Lib.hid hrow8
    have HD8 := Lib.hid (HD7.out.below hb8)
    have HB8 := Lib.hid (bthen HB7.out hb8)
    clear hrow8 hb8 HR7 HD7 HB7 hg8 HC1
    go_wp2_with fail
    refine (read_any q HD8.out hql (by simp)).mono ?_
    rintro e w9 ⟨g9, rfl, hg9, hrow9, hb9⟩
    rw [HC2.out, lastPd_other hpq] at hrow9
    have HR9 := Lib.hid ((hb9.block g5 (lt_of_block HR8.out)).trans HR8.out)
    have HR9b := Lib.hid ((hb9.block g8 (lt_of_block HR8b.out)).trans HR8b.out)
    have HR9c := Lib.hid hrow9
    have HB9 := Lib.hid (bthen HB8.out hb9)
    have hcx := (HB9.out.cell (by rw [block_of_add]; exact hl)).trans HCX.out
    clear hrow9 hb9 HR8 HR8b HD8 HB8 hg9 HC2 HCX
    go_wp2_with fail
    clear hcx
    have hfull := full_any x w9
    unfold FullPost at hfull
    rw [show List.replicate 256 x = (fullW p x).bytes from rfl] at hfull
    have hpx := (fullW p x).len
    have hp9 := (fullW q 9).len
    have hfull9 : ∀ w, Calls Try.prog 27 #[.int .u8 9] w (FullPost w 9) := fun w => full_any 9 w
    unfold FullPost at hfull9
    rw [show List.replicate 256 (9 : UInt8) = (fullW q 9).bytes from rfl] at hfull9
    have HF9 := Lib.hid hfull9
    clear hfull9
    generalize (fullW p x).bytes = px at *
    generalize (fullW q 9).bytes = p9 at *
    have HPX := Lib.hid hpx
    have HP9 := Lib.hid hp9
    clear hpx hp9
    refine hfull.mono ?_
    rintro e w10 ⟨g10, rfl, hg10, hrow10, hb10⟩
    clear hfull
    have cvw := conv_rd (c := 256) (rd_whole hrow10) HPX.out
    have hd10 : Below w10.heap.size w10 w10.drew := (Below.refl _ _).drew
    have hbd := bthen hb10 hd10
    have cva := conv_rd_later (c := 256) ((rd_whole HR9.out).below hbd) HPX.out
    have cvb := conv_rd_later (c := 256) ((rd_whole HR9b.out).below hbd) HPX.out
    have cvc := conv_rd_later (c := 256) ((rd_whole HR9c.out).below hbd) HP9.out
    have HB10 := Lib.hid (bthen HB9.out hbd)
    clear hrow10 hb10 hd10 hbd hg10
    go_wp2_with fail
    refine wp_region_segs [([0, 1, 2, 3, 4, 5, 6, 7, 8, 9, 10, 11, 12, 13, 14, 15, 16, 17, 18, 19, 20, 21, 22, 23, 24], 25)] [26, 27, 28, 29] (by kernel_rfl) (by kernel_rfl) (by kernel_rfl) (by kernel_rfl) (by intro c a d v w h; cases d <;> exact h) ?_
    refine wpSegs_more ?_
    simp only [pick, List.getElem?_cons_zero, List.getElem?_cons_succ]
    repeat (first | go_big_quiet_step (fail) | quiet_step (fail))
    refine wpQuiet_nil ?_
    refine wpOp_heavy rfl (by rfl) (fun K hK => ?_)
    go_simp
    clear cva cvb cvc cvw
    refine (HF9.out w10.drew).mono ?_
    rintro e w12 ⟨g12, rfl, hg12, hrow12, hb12⟩
    have cv12 := conv_rd_later (c := 256) (rd_whole hrow12) HP9.out
    refine hK _ _ hb12 ?_
    clear hK K hrow12
    refine wpSegs_last ?_
    simp only [pick, List.getElem?_cons_zero, List.getElem?_cons_succ]
    repeat (first | go_big_quiet_step (fail) | quiet_step (fail))
    refine wpQuiet_nil ?_
    clear cv12
    go_wp2
    go_ret
    exact ⟨rfl, bthen HB10.out hb12⟩

end Go.Proofs.Ythjgcbpanfiacaa

namespace Go.Proofs.Ythjgcbpanfiacaa.deviceLast
open Go.ChangeShapes Go.WideShapes Go.ChangeAt Go.RowKit
open Go.ChangeMaps (open_string shut_string)
set_option linter.unusedVariables false

theorem own : ownKnob Try.prog.godebug = none := by kernel_rfl
theorem laidOut : laidOutB Try.prog = true := by kernel_rfl

set_option maxRecDepth 100000 in
theorem lifted (os : Os) (started : os.Started) (H : Type) (enc : TypeId × Value → H) :
    ReturnsInHanded {} Try.checked os 8 .any (Rows.deviceLastSpec.pre6 enc Try.prog Try.f8 Rows.deviceLastRow.domain false) (Rows.deviceLastSpec.post enc Try.prog Try.f8 false true false false) := by
  refine returnsInHanded_of_change_sized (C := Try.checked) own started (by kernel_rfl) Try.func8
    (ChangeSpec.witness6 (enc := enc) (C := Try.checked) false ⟨#[], #[.slice none 0 0, .int .u8 0, .int .u8 0], []⟩ 8 (by kernel_rfl) (by kernel_rfl) (by kernel_rfl) (by kernel_rfl)) ?_
  intro W base args ds gs before hval0 hW hcnd hsz0 _
  have hval : ∀ (j : Nat) t v, Try.f8.params[j]? = some t → args[j]? = some v → Value.okWide Try.prog W .any base t v := hval0
  have hsz : (DataW.weightsEach Try.prog (Try.f8.params.toList ++ Rows.deviceLastSpec.plain.varTypes Try.prog) (ds ++ gs)).all (· ≤ reachBytes) = true := hsz0
  have hW' := hW
  obtain ⟨p, q, hA0, hV, rfl, hfz, hnd⟩ := hW
  have hA : DataW.TrodAll enc Try.prog W 0 (fun _ => true) true Try.f8.params.toList args.toList ds p := hA0
  rw [Try.params8] at hA hval hsz
  obtain ⟨v0, vs0, d0, ds0, p0, q0, hargs, rfl, rfl, h0, r0⟩ := trodAll_cons hA
  obtain ⟨v1, vs1, d1, ds1, p1, q1, rfl, rfl, rfl, h1, r1⟩ := trodAll_cons r0
  obtain ⟨v2, vs2, d2, ds2, p2, q2, rfl, rfl, rfl, h2, r2⟩ := trodAll_cons r1
  obtain ⟨rfl, rfl, rfl⟩ := trodAll_nil r2
  obtain rfl : args = #[v0, v1, v2] := by cases args; simp_all
  obtain ⟨rfl, rfl⟩ := trodVars_none hV
  obtain ⟨A0, n0, c0, rfl⟩ := okWide_slice Try.underlying35 (hval 0 35 v0 rfl rfl)
  have k0 := h0
  have lt0 : ∀ x ∈ p0, x.block < W.heap.size := by obtain ⟨m, hm⟩ := k0; exact DataW.trod_lt m _ _ _ hm
  obtain ⟨l0, w0⟩ := open_bytes h0 (fun m hm => of_decide_eq_true (List.all_eq_true.1 hsz _ (DataW.weights_mem_each (j := 0) (t := 35) rfl rfl m hm)))
  obtain ⟨a1, rfl, rfl, rfl, w1⟩ := open_int Try.underlying5 (hval 1 5 v1 rfl rfl) h1
  obtain ⟨a2, rfl, rfl, rfl, w2⟩ := open_int Try.underlying5 (hval 2 5 v2 rfl rfl) h2
  clear hA0 hval0 hsz hsz0
  refine (deviceLast_walk A0 n0 c0 l0 a1 a2 W w0 w1 w2).mono fun e W' ⟨he, bel⟩ => ?_
  subst he
  exact ⟨_, rfl, _, _, _, [], _, [], hW', trodAll_mk1 (shut_bool Try.underlying4 _), (trodAll_cons_mk (Below.trod laidOut (by kernel_rfl) (of_decide_eq_true (by kernel_rfl)) k0 bel lt0) (trodAll_cons_mk (shut_int Try.underlying5 w1) (trodAll_cons_mk (shut_int Try.underlying5 w2) trodAll_mk0))), rfl, bel.frame _, fun h => by cases h⟩

theorem over : Rows.deviceLastRow.holds Try.pinned (OpenSpec.ofChange Rows.deviceLastSpec) :=
  OpenClaim.holds_of_wide 8 Try.f8 rfl rfl rfl rfl rfl rfl rfl ⟨rfl, rfl, rfl, rfl, rfl⟩ rfl rfl rfl rfl rfl (by kernel_rfl) Try.func8 (by kernel_rfl)
    (of_decide_eq_true (by kernel_rfl)) (by unfold Func.isWrapper; first | (rw [if_pos (by decide +kernel)]; kernel_rfl) | (rw [if_neg (by decide +kernel)]; exact ⟨rfl, rfl⟩))
    (fun os started H enc _ => lifted os started H enc)

theorem proved : Rows.DeviceLastSaid := over
#print axioms proved

end Go.Proofs.Ythjgcbpanfiacaa.deviceLast
