/-
  PageTurned: a page in which bits within 32 side by side are turned is ErrSum; for every page, place and pattern; no condition beyond the row's.
-/
import Derived.Test.YtgicomadlhnkjaaDoorPageDecode
import Derived.Test.YtgicomadlhnkjaaDoorRooms
import Derived.Test.YtgicomadlhnkjaaDoorPageOpen
import Derived.Test.YtgicomadlhnkjaaDoorPageTools
import Derived.Test.YtgicomadlhnkjaaDoorSumLaid
import Derived.Test.YtgicomadlhnkjaaDoorTie
import Derived.Test.YtgicomadlhnkjaaDoorCards
import Derived.SevenTiedAt
namespace Go.Proofs.YtgicomadlhnkjaaDoor
open Go.RowKit Go.Sort
set_option linter.unusedVariables false

theorem and1 (t : BitVec 32) (i : Nat) (hi : i < 32) : (bits .and .u32 ((t.toNat : Int) / 2 ^ i) 1 == 1) = t.getLsbD i := by
  have hd : ((t.toNat : Int) / 2 ^ i) = ((t.toNat / 2 ^ i : Nat) : Int) := by simp
  have hl := t.isLt
  have hle : t.toNat / 2 ^ i ≤ t.toNat := Nat.div_le_self _ _
  have hv : bits .and .u32 ((t.toNat : Int) / 2 ^ i) 1 = ((t.toNat / 2 ^ i % 2 : Nat) : Int) := by
    rw [hd]
    show IntKind.u32.wrap ((BitVec.ofInt 32 ((t.toNat / 2 ^ i : Nat) : Int) &&& BitVec.ofInt 32 ((1 : Nat) : Int)).toNat : Int) = _
    rw [BitVec.ofInt_natCast, BitVec.ofInt_natCast, BitVec.toNat_and, BitVec.toNat_ofNat, BitVec.toNat_ofNat, Nat.mod_eq_of_lt (show t.toNat / 2 ^ i < 2 ^ 32 by omega), Nat.mod_eq_of_lt (show 1 < 2 ^ 32 by omega), Nat.and_one_is_mod, IntKind.wrap_u32]
    omega
  rw [hv, BitVec.getLsbD, Nat.testBit_eq_decide_div_mod_eq]
  have h2 : t.toNat / 2 ^ i % 2 = 0 ∨ t.toNat / 2 ^ i % 2 = 1 := by omega
  rcases h2 with h | h <;> simp [h]

theorem bit8 (r : Nat) (hr : r < 8) : ((128 : Int) / 2 ^ r) = ((UInt8.ofNat (128 >>> r)).toNat : Int) := by
  have : ∀ q : Fin 8, ((128 : Int) / 2 ^ q.val) = ((UInt8.ofNat (128 >>> q.val)).toNat : Int) := by decide +kernel
  exact this ⟨r, hr⟩

theorem dec_sum {l : List UInt8} {q : PP} {r : Int} (h : Dec l q r) (hl : l.length = 256) (hs : Crc.isSealed l = false) : r = 5 := by
  rcases h with ⟨h, _⟩ | ⟨_, _, _, h⟩ | ⟨_, h, _⟩ | ⟨_, h, _⟩
  · exact absurd hl h
  · exact h
  · rw [hs] at h; cases h
  · have : Crc.isSealed l = true := by rw [← h]; exact Crc.sealed_isSealed _
    rw [hs] at this; cases this
theorem ob_block {w : World} {base : Nat} {v : Value} {l : List UInt8} (h : OB w base v l) (h0 : 0 < l.length) : ∃ g c R, v = .slice (some ⟨g, 0, none⟩) l.length c ∧ base ≤ g ∧ w.heap[g]? = some (.cells (bcells l ++ R).toArray 5 (0, 0)) ∧ l.length ≤ c := by
  rcases h.2 with ⟨_, h1⟩ | ⟨g, cap, cur, hv, hg, hh, hc, _, hs, ht⟩
  · omega
  · refine ⟨g, cap, cur.toList.drop (l.length * 1), hv, hg, ?_, hc⟩
    rw [hh]
    have : cur.toList = bcells l ++ cur.toList.drop (l.length * 1) := by
      rw [← ht, List.take_append_drop]
    rw [← this]

set_option linter.unusedSimpArgs false in
set_option maxHeartbeats 4000000 in
set_option maxRecDepth 100000 in
theorem pageTurned_walk0 (p : PP) (A B : Option Addr) (a b : Nat) (at_ : Nat) (t : BitVec 32) (w : World) (hh : Half w) (hA : Ls pcC w A p.cells) (hB : Ls pcK w B p.kids) (hp : ArgP p) (hat : at_ < 18446744073709551616) :
    Calls Tryd.prog 7 #[pageV p A a B b, .int .u64 (at_ : Int), .int .u32 (t.toNat : Int)] w fun e w' => e = .returned (.bool true) ∧ Below w.heap.size w w' := by
  have hfew := few_any p
  have hmade := made_any p
  have henc := encode_any p
  have hf1' : FewP p → p.cells.length ≤ 1000 := fun h => by have := h.1; omega
  have hf2' : FewP p → p.kids.length ≤ 1000 := fun h => by have := h.2.1; omega
  have hbd' : FewP p → Bd p := fun h => hp.bd h
  unfold PgPost at hmade
  unfold pageV at *
  generalize hgn : p.cells.length = n at *
  generalize hgm : p.kids.length = m at *
  generalize hpk : p.kind = pk at *
  generalize hpp : p.piece = pp at *
  generalize hpn : p.next = pn at *
  obtain ⟨W, hW⟩ : ∃ W, W = w.alloc (.cells #[.int .i64 pk, .slice A n a, .slice B m b, .string pp, .int .i64 pn] 25) := ⟨_, rfl⟩
  have hbW : Below w.heap.size w W := by rw [hW]; exact (Below.refl _ _).alloc (Nat.le_refl _) _
  have hsW : w.heap.size < W.heap.size := by rw [hW]; simp
  have hcc : ∀ w', Below W.heap.size W w' → w'.cell? ⟨w.heap.size, 0, none⟩ = some (.int .i64 pk) ∧ w'.cell? ⟨w.heap.size, 1, none⟩ = some (.slice A n a) ∧ w'.cell? ⟨w.heap.size, 2, none⟩ = some (.slice B m b) ∧ w'.cell? ⟨w.heap.size, 3, none⟩ = some (.string pp) ∧ w'.cell? ⟨w.heap.size, 4, none⟩ = some (.int .i64 pn) := fun w' h => by
    rw [hW] at h
    exact ⟨box_at h 0 _ rfl, box_at h 1 _ rfl, box_at h 2 _ rfl, box_at h 3 _ rfl, box_at h 4 _ rfl⟩
  have HCC := Lib.hid hcc
  have HW := Lib.hid hW
  clear hW hcc hgn hgm hpk hpp hpn
  go_enter Tryd.func7, Tryd.ntmps7
  go_wp2_with fail
  rw [← HW.out]
  refine (awake_any W (hh.below hbW)).mono ?_
  rintro e w1 ⟨rfl, hb1⟩
  obtain ⟨ca0, ca1, ca2, ca3, ca4⟩ := HCC.out _ hb1
  have hbw1 := bthen hbW hb1
  go_wp2_with fail
  refine (hfew A B a b w1 (hA.below hbw1) (hB.below hbw1) hp).mono ?_
  rintro e w2 ⟨rfl, hb2⟩
  have hb12 := bthen hb1 hb2
  have hbw2 := bthen hbW hb12
  clear ca0 ca1 ca2 ca3 ca4
  by_cases hf : FewP p
  · have hf1 := hf1' hf
    have hf2 := hf2' hf
    have hbd := hbd' hf
    clear hf1' hf2' hbd'
    rw [decide_eq_true hf]
    by_cases ht0 : t = 0#32
    · subst ht0
      go_wp2_with fail
      refine (awake_any w2 (hh.below hbw2)).mono ?_
      rintro e w3 ⟨rfl, hb3⟩
      have hbw3 := bthen hbw2 hb3
      go_wp2
      go_ret
      exact ⟨rfl, hbw3⟩
    · have ht1 : t.toNat ≠ 0 := fun h0 => ht0 (BitVec.eq_of_toNat_eq (by simpa using h0))
      have hne : (((t.toNat : Nat) : Int) == 0) = false := by simpa using ht1
      have HT0 := Lib.hid ht0
      clear ht0 ht1
      obtain ⟨cb0, cb1, cb2, cb3, cb4⟩ := HCC.out _ hb12
      go_wp2_with fail
      refine (hmade A B a b w2 (hA.below hbw2) (hB.below hbw2) hf1 hf2).mono ?_
      rintro e w3 ⟨A3, a3, B3, b3, rfl, hA3, hB3, hb3⟩
      have hb13 := bthen hb12 hb3
      have hbw3 := bthen hbW hb13
      clear cb0 cb1 cb2 cb3 cb4
      go_wp2_with fail
      refine (henc A3 B3 a3 b3 w3 hA3 hB3 hbd (hh.below hbw3)).mono ?_
      intro e w4 hpost
      by_cases hok : okPage p
      · obtain ⟨v4, rfl, ho4, hb4⟩ := enc_ok hpost hok
        have HL : Hid ((encL p).length = 256) := encL_len hok
        obtain ⟨gs, c4, R, rfl, hgs, hblk4, hc4⟩ := ob_block ho4 (by rw [HL.out]; omega)
        rw [HL.out] at hc4 ⊢
        have HB4 := Lib.hid hblk4
        have hbw4 := bthen hbw3 hb4
        have hgsw : w.heap.size ≤ gs := Nat.le_trans hbw3.size hgs
        have HS0 : ∀ k, Hid (Crc.stateOf Crc.ones (encL p) = Crc.st 32 Crc.ones ^^^ Crc.st (8 * (encL p).length - k) (Crc.top t 0)) := by
          intro k
          show Crc.stateOf Crc.ones (encL p) = Crc.st 32 Crc.ones ^^^ Crc.st (8 * (encL p).length - k) 0#32
          rw [Crc.st_0, BitVec.xor_zero]
          exact (Crc.isSealed_iff _ (by rw [HL.out]; omega)).1 (Crc.sealed_isSealed _)
        have HBL : Hid ((bodyL p).length = 252) := bodyL_len hok
        clear hpost ho4 hblk4
        obtain ⟨k, hk⟩ : ∃ k : Nat, (k : Int) = (at_ : Int) % 2017 := ⟨((at_ : Int) % 2017).toNat, by
          rw [Int.toNat_of_nonneg (Int.emod_nonneg _ (by omega))]⟩
        have hkl : k < 2017 := by
          have := Int.emod_lt_of_pos (at_ : Int) (show (0 : Int) < 2017 by omega)
          omega
        go_wp2
        first | rw [← hk] | skip
        clear hk
        go_loopw [10] (fun i wr => ∃ (j : Nat) (l : List UInt8), j ≤ 32 ∧ i = .int .i64 j ∧ Hid (l.length = 256) ∧ Hid (wr.heap[gs]? = some (.cells (bcells l ++ R).toArray 5 (0, 0))) ∧ Hid (Crc.stateOf Crc.ones l = Crc.st 32 Crc.ones ^^^ Crc.st (8 * l.length - k) (Crc.top t j)) ∧ w4.grownBy wr (some gs)) (fun i _ => 32 - (intOf i).toNat)
        case atStart => exact ⟨0, encL p, by omega, rfl, HL, HB4, HS0 k, World.grownBy.refl _ _⟩
        case round =>
          obtain ⟨j, l, hj, rfl, HL2, HB, HS, hgr⟩ := hrel
          by_cases hlt : j < 32
          · have hbit := and1 t (31 - j) (by omega)
            have hp8 : (k + j) / 8 < l.length := by rw [HL2.out]; omega
            have hcell : wr.cell? ⟨gs, (k + j) / 8, none⟩ = some (.int .u8 (l[(k + j) / 8].toNat : Int)) := by
              rw [cell_of_block HB.out, List.getElem?_toArray, List.getElem?_append_left (by rw [bcells_length]; exact hp8)]
              simp [bcells, u8, hp8]
            have hfr : wr.frozen? ⟨gs, (k + j) / 8, none⟩ = false := by simp [World.frozen?, HB.out]
            obtain ⟨y, hy⟩ : ∃ y, y = l[(k + j) / 8] := ⟨_, rfl⟩
            rw [← hy] at hcell
            have HY := Lib.hid hy
            clear hy
            by_cases ht : t.getLsbD (31 - j) = true
            · rw [ht] at hbit
              obtain ⟨z, hz⟩ : ∃ z, z = UInt8.ofNat (128 >>> ((k + j) % 8)) := ⟨_, rfl⟩
              have hzn : ((128 : Int) / 2 ^ ((k + j) % 8)) = (z.toNat : Int) := by
                rw [hz]
                exact bit8 _ (Nat.mod_lt _ (by omega))
              have hx : bits .xor .u8 (y.toNat : Int) (128 / 2 ^ ((k + j) % 8)) = ((y ^^^ z).toNat : Int) := by rw [hzn, xor8]
              have HX := Lib.hid hx
              have HZ := Lib.hid hz
              have HT := Lib.hid ht
              clear hz hzn hx ht
              go_wp2
              rw [HX.out]
              refine ⟨⟨j + 1, l.set ((k + j) / 8) (y ^^^ z), by omega, by go_num, Lib.hid (by simpa using HL2.out), ?_, ?_, only_setCell hgr rfl _⟩, by simp [intOf]; omega⟩
              · refine (blk_set HB.out _ _).trans ?_
                simp [bcells, List.map_set, List.set_append, hp8, u8]
              · have := Crc.turn_bit l Crc.ones (Crc.st 32 Crc.ones) t (k + j) k j hlt rfl (by rw [HL2.out]; omega) hp8 HS.out HT.out
                rw [← HY.out, ← HZ.out] at this
                show _ = _
                rw [List.length_set]
                exact this
            · have ht' : t.getLsbD (31 - j) = false := by simpa using ht
              rw [ht'] at hbit
              have HT := Lib.hid ht'
              clear ht ht'
              go_wp2
              exact ⟨⟨j + 1, l, by omega, by go_num, HL2, HB, Crc.turn_not l _ _ t k j HS.out HT.out, hgr⟩, by simp [intOf]; omega⟩
          · have hj32 : j = 32 := by omega
            subst hj32
            have hsl := Crc.turned (bodyL p) l k t (by rw [HL2.out, HBL.out]) HS.out
            rw [decide_eq_false HT0.out] at hsl
            have HSL := Lib.hid hsl
            have hb5 := below_only hbw4 hgr hbw4.size hgsw
            have hrd : Rd wr (some ⟨gs, 0, none⟩) l := rd_pre HB.out
            clear hsl hgr
            go_wp2_with fail
            refine (decode_any (some ⟨gs, 0, none⟩) 256 c4 l wr (hh.below hb5) hrd HL2.out hc4 (by omega)).mono ?_
            rintro e w6 ⟨q6, A6, B6, a6, b6, r6, rfl, hA6, hB6, hb6, _, _, _, hdec6⟩
            have hr6 : r6 = 5 := dec_sum hdec6 HL2.out HSL.out
            subst hr6
            unfold pageV
            have hbw6 := bthen hb5 hb6
            go_wp2
            go_ret
            exact ⟨rfl, hbw6.alloc hbw6.size _⟩
      · obtain ⟨rfl, hb4⟩ := enc_no hpost hok
        have hbw4 := bthen hbw3 hb4
        clear hpost
        go_wp2
        go_ret
        exact ⟨rfl, hbw4⟩
  · rw [decide_eq_false hf]
    go_wp2_with fail
    refine (awake_any w2 (hh.below hbw2)).mono ?_
    rintro e w3 ⟨rfl, hb3⟩
    have hbw3 := bthen hbw2 hb3
    go_wp2
    go_ret
    exact ⟨rfl, hbw3⟩

theorem pageTurned_walk (p : PP) (A B : Option Addr) (a b : Nat) (x y : Int) (w : World) (hh : Half w) (hA : Ls pcC w A p.cells) (hB : Ls pcK w B p.kids) (hp : ArgP p) (hx : (Lit.int .u64 x).wf = true) (hy : (Lit.int .u32 y).wf = true) :
    Calls Tryd.prog 7 #[pageV p A a B b, .int .u64 x, .int .u32 y] w fun e w' => e = .returned (.bool true) ∧ Below w.heap.size w w' := by
  have hx' : 0 ≤ x ∧ x ≤ 18446744073709551615 := by simpa [Lit.wf, IntKind.min, IntKind.max, IntKind.signed, IntKind.bits] using hx
  have hy' : 0 ≤ y ∧ y ≤ 4294967295 := by simpa [Lit.wf, IntKind.min, IntKind.max, IntKind.signed, IntKind.bits] using hy
  obtain ⟨n, rfl⟩ := Int.eq_ofNat_of_zero_le hx'.1
  obtain ⟨m, rfl⟩ := Int.eq_ofNat_of_zero_le hy'.1
  have := pageTurned_walk0 p A B a b n (BitVec.ofNat 32 m) w hh hA hB hp (by omega)
  rwa [BitVec.toNat_ofNat, Nat.mod_eq_of_lt (by omega)] at this

end Go.Proofs.YtgicomadlhnkjaaDoor

namespace Go.Proofs.YtgicomadlhnkjaaDoor.pageTurned
open Go Go.ChangeShapes Go.WideShapes Go.ChangeAt Go.RowKit
open Go.ChangeMaps (open_string shut_string)
set_option linter.unusedVariables false

theorem own : ownKnob Tryd.prog.godebug = none := by kernel_rfl

theorem laidOut : laidOutB Tryd.prog = true := by kernel_rfl

set_option maxRecDepth 100000 in
theorem lifted (os : Os) (started : os.Started) (H : Type) (enc : TypeId × Value → H) :
    ReturnsInHanded {} Tryd.checked os 7 .any (fun w args => (Rows.pageTurnedSpec.pre enc Tryd.prog Tryd.f7 [] false w args ∧ laidMetH Tryd.prog laidL w) ∧ sizedMet enc Tryd.prog Tryd.f7 (OpenSpec.ofChange Rows.pageTurnedSpec) false w args)
      (Rows.pageTurnedSpec.post enc Tryd.prog Tryd.f7 false true false false) := by
  refine returnsInHanded_of_change_and (C := Tryd.checked) (X := fun w _ => laidMetH Tryd.prog laidL w) (fun _ _ _ hh h => h.of_heap hh) own started (by kernel_rfl) Tryd.func7
    (ChangeSpec.witness_shaped (enc := enc) (C := Tryd.checked) (os := os) (X := fun w _ => laidMetH Tryd.prog laidL w) false (World.doorLaid Tryd.prog 14 os) #[.agg #[.int .i64 0, .slice none 0 0, .slice none 0 0, .string ByteArray.empty, .int .i64 0], .int .u64 0, .int .u32 0] 8 rfl (World.shaped_of_RefB (by kernel_rfl) (by kernel_rfl)) (by kernel_rfl) (by kernel_rfl) (by kernel_rfl) (door_met os _)) ?_
  intro W base args ds gs before hval0 hW hcnd hsz0 hL _
  have hval : ∀ (j : Nat) t v, Tryd.f7.params[j]? = some t → args[j]? = some v → Value.okWide Tryd.prog W .any base t v := hval0
  have hsz : (DataW.weightsEach Tryd.prog (Tryd.f7.params.toList ++ Rows.pageTurnedSpec.plain.varTypes Tryd.prog) (ds ++ gs)).all (· ≤ reachBytes) = true := hsz0
  have hW' := hW
  obtain ⟨p, q, hA0, hV, rfl, hfz, hnd⟩ := hW
  have hA : DataW.TrodAll enc Tryd.prog W 0 (fun _ => true) true Tryd.f7.params.toList args.toList ds p := hA0
  rw [Tryd.params7] at hA hval hsz
  obtain ⟨v0, vs0, d0, ds0, p0, q0, hargs, rfl, rfl, h0, r0⟩ := trodAll_cons hA
  obtain ⟨v1, vs1, d1, ds1, p1, q1, rfl, rfl, rfl, h1, r1⟩ := trodAll_cons r0
  obtain ⟨v2, vs2, d2, ds2, p2, q2, rfl, rfl, rfl, h2, r2⟩ := trodAll_cons r1
  obtain ⟨rfl, rfl, rfl⟩ := trodAll_nil r2
  obtain rfl : args = #[v0, v1, v2] := by cases args; simp_all
  obtain ⟨rfl, rfl⟩ := trodVars_none hV
  have k0 := h0
  have lt0 : ∀ x ∈ p0, x.block < W.heap.size := by obtain ⟨m, hm⟩ := k0; exact DataW.trod_lt m _ _ _ hm
  obtain ⟨a0, A0, B0, ca0, cb0, rfl, la0, lb0, w0⟩ := open_page (hval 0 25 v0 rfl rfl) h0 (fun m hm => of_decide_eq_true (List.all_eq_true.1 hsz _ (DataW.weights_mem_each (j := 0) (t := 25) rfl rfl m hm)))
  obtain ⟨a1, rfl, rfl, rfl, w1⟩ := open_int Tryd.underlying48 (hval 1 48 v1 rfl rfl) h1
  obtain ⟨a2, rfl, rfl, rfl, w2⟩ := open_int Tryd.underlying49 (hval 2 49 v2 rfl rfl) h2
  clear hA0 hval0 hsz hsz0
  refine (pageTurned_walk a0 A0 B0 ca0 cb0 a1 a2 W (half_of_laid hL) la0 lb0 w0 w1 w2).mono fun e W' ⟨he, bel⟩ => ?_
  subst he
  exact ⟨_, rfl, _, _, _, [], _, [], hW', trodAll_mk1 (shut_bool Tryd.underlying4 _), (trodAll_cons_mk (Below.trod laidOut (by kernel_rfl) (of_decide_eq_true (by kernel_rfl)) k0 bel lt0) (trodAll_cons_mk (shut_int Tryd.underlying48 w1) (trodAll_cons_mk (shut_int Tryd.underlying49 w2) trodAll_mk0))), rfl, bel.frame _, fun h => by cases h⟩

theorem over : Rows.PageTurnedSaid :=
  OpenClaim.holds_of_wide 7 Tryd.f7 rfl rfl rfl rfl rfl rfl rfl ⟨rfl, rfl, rfl, rfl, rfl⟩ rfl rfl rfl rfl rfl (by kernel_rfl) Tryd.func7 (by kernel_rfl)
    (of_decide_eq_true (by kernel_rfl)) (by unfold Func.isWrapper; first | (rw [if_pos (by decide +kernel)]; kernel_rfl) | (rw [if_neg (by decide +kernel)]; exact ⟨rfl, rfl⟩))
    (fun os started H enc _ => lifted os started H enc)

theorem proved : Rows.PageTurnedCardSaid :=
  Claim7.holds_tied_plain_at .later [] [.data] true (true, "4e616fa6175ec80d00b51e5fb52bf1d6326841f81c3ae43d4e7153953247007d") false
    over (fun _ h => by cases h) (by kernel_rfl) (fun _ h => by cases h) pageTurned_row_tie rfl ⟨rfl, rfl⟩ (by kernel_rfl) rfl
    (fun f fn hf hfn => by
      obtain rfl : f = 7 := Option.some.inj ((show Tryd.prog.funcNamed "sapwood/sapwoodlaw04.PageTurned" = some 7 by kernel_rfl).symm.trans hf) |>.symm
      obtain rfl : fn = Tryd.f7 := (Option.some.inj (Tryd.func7.symm.trans hfn)).symm
      exact ⟨by kernel_rfl, fun j t ht => by
        rw [Tryd.params7] at ht
        have hm : t ∈ [25, 48, 49] := by simpa using Array.mem_of_getElem? ht
        have hall : ([25, 48, 49].all fun u => !Tryd.prog.wantsStandIn u) = true := by kernel_rfl
        exact (show Tryd.prog.wantsStandIn t = false by simpa using List.all_eq_true.1 hall t hm)⟩)
    (by kernel_rfl)
#print axioms proved

end Go.Proofs.YtgicomadlhnkjaaDoor.pageTurned
