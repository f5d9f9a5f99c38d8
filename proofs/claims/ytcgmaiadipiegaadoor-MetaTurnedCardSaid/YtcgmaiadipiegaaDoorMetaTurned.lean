/-
  MetaTurned: a meta page in which bits within 32 side by side are turned is none, for every meta page, place and pattern; no condition beyond the row's.
-/
import Derived.Test.YtcgmaiadipiegaaDoorMetaTools
import Derived.Test.YtcgmaiadipiegaaDoorMetaOpen
import Derived.Test.YtcgmaiadipiegaaDoorSumLaid
import Derived.Test.YtcgmaiadipiegaaDoorTie
import Derived.Test.YtcgmaiadipiegaaDoorCards
import Derived.SevenTiedAt
namespace Go.Proofs.YtcgmaiadipiegaaDoor
open Go.RowKit Go.Sort
set_option linter.unusedVariables false

theorem and1 (t : BitVec 32) (i : Nat) (hi : i < 32) : (bits .and .u32 ((t.toNat : Int) / 2 ^ i) 1 == 1) = t.getLsbD i := by
  have hd : ((t.toNat : Int) / 2 ^ i) = ((t.toNat / 2 ^ i : Nat) : Int) := by simp
  have hl := t.isLt
  have hle : t.toNat / 2 ^ i ≤ t.toNat := Nat.div_le_self _ _
  have hv : bits .and .u32 ((t.toNat : Int) / 2 ^ i) 1 = ((t.toNat / 2 ^ i % 2 : Nat) : Int) := by
    rw [hd]
    show IntKind.u32.wrap ((BitVec.ofInt 32 ((t.toNat / 2 ^ i : Nat) : Int) &&& BitVec.ofInt 32 ((1 : Nat) : Int)).toNat : Int) = _
    rw [BitVec.ofInt_natCast, BitVec.ofInt_natCast, BitVec.toNat_and, BitVec.toNat_ofNat, BitVec.toNat_ofNat, Nat.mod_eq_of_lt (show t.toNat / 2 ^ i < 2 ^ 32 by omega), Nat.mod_eq_of_lt (show 1 < 2 ^ 32 by omega), Nat.and_one_is_mod, IntKind.wrap_u32]
    omega
  rw [hv, BitVec.getLsbD, Nat.testBit_eq_decide_div_mod_eq]
  have h2 : t.toNat / 2 ^ i % 2 = 0 ∨ t.toNat / 2 ^ i % 2 = 1 := by omega
  rcases h2 with h | h <;> simp [h]

theorem bit8 (r : Nat) (hr : r < 8) : ((128 : Int) / 2 ^ r) = ((UInt8.ofNat (128 >>> r)).toNat : Int) := by
  have : ∀ q : Fin 8, ((128 : Int) / 2 ^ q.val) = ((UInt8.ofNat (128 >>> q.val)).toNat : Int) := by decide +kernel
  exact this ⟨r, hr⟩

theorem ob_block {w : World} {base : Nat} {v : Value} {l : List UInt8} (h : OB w base v l) (h0 : 0 < l.length) : ∃ g c R, v = .slice (some ⟨g, 0, none⟩) l.length c ∧ base ≤ g ∧ w.heap[g]? = some (.cells (bcells l ++ R).toArray 5 (0, 0)) ∧ l.length ≤ c := by
  rcases h.2 with ⟨_, h1⟩ | ⟨g, cap, cur, hv, hg, hh, hc, _, hs, ht⟩
  · omega
  · refine ⟨g, cap, cur.toList.drop (l.length * 1), hv, hg, ?_, hc⟩
    rw [hh]
    have : cur.toList = bcells l ++ cur.toList.drop (l.length * 1) := by
      rw [← ht, List.take_append_drop]
    rw [← this]


set_option linter.unusedSimpArgs false in
set_option maxHeartbeats 4000000 in
set_option maxRecDepth 100000 in
theorem metaTurned_walk0 (m : MT) (at_ : Nat) (t : BitVec 32) (w : World) (hh : Half w) (hm : MI m) (hat : at_ < 18446744073709551616) :
    Calls Tryd.prog 8 #[metaV m, .int .u64 (at_ : Int), .int .u32 (t.toNat : Int)] w fun e w' => e = .returned (.bool true) ∧ Below w.heap.size w w' := by
  obtain ⟨x, y0⟩ := m
  have henc := mtEncode_any ⟨x, y0⟩
  have hri := mtRefRight_any ⟨x, y0⟩
  have HM := Lib.hid hm
  clear hm
  unfold metaV at *
  simp only at *
  obtain ⟨W, hW⟩ : ∃ W, W = w.alloc (.cells #[.int .i64 x, .int .i64 y0] 23) := ⟨_, rfl⟩
  have hbW : Below w.heap.size w W := by rw [hW]; exact (Below.refl _ _).alloc (Nat.le_refl _) _
  have hcc : ∀ w', Below W.heap.size W w' → w'.cell? ⟨w.heap.size, 0, none⟩ = some (.int .i64 x) ∧ w'.cell? ⟨w.heap.size, 1, none⟩ = some (.int .i64 y0) := fun w' h => by
    rw [hW] at h
    exact ⟨box_at h 0 _ rfl, box_at h 1 _ rfl⟩
  have HCC := Lib.hid hcc
  have HW := Lib.hid hW
  clear hW hcc
  go_enter Tryd.func8, Tryd.ntmps8
  go_wp2_with fail
  rw [← HW.out]
  refine (mtAwake_any W (hh.below hbW)).mono ?_
  rintro e w1 ⟨rfl, hb1⟩
  obtain ⟨ca0, ca1⟩ := HCC.out _ hb1
  go_wp2_with fail
  refine (hri w1 HM.out).mono ?_
  rintro e w2 ⟨rfl, hb2⟩
  have hb12 := bthen hb1 hb2
  have hbw2 := bthen hbW hb12
  clear ca0 ca1 hb1 hb2 hri
  by_cases hok : okM ⟨x, y0⟩
  · rw [decide_eq_true hok]
    by_cases ht0 : t = 0#32
    · subst ht0
      go_wp2_with fail
      refine (mtAwake_any w2 (hh.below hbw2)).mono ?_
      rintro e w3 ⟨rfl, hb3⟩
      have hbw3 := bthen hbw2 hb3
      go_wp2
      go_ret
      exact ⟨rfl, hbw3⟩
    · have ht1 : t.toNat ≠ 0 := fun h0 => ht0 (BitVec.eq_of_toNat_eq (by simpa using h0))
      have hne : (((t.toNat : Nat) : Int) == 0) = false := by simpa using ht1
      have HT0 := Lib.hid ht0
      clear ht0 ht1
      obtain ⟨cb0, cb1⟩ := HCC.out _ hb12
      go_wp2_with fail
      refine (henc w2 HM.out (hh.below hbw2)).mono ?_
      intro e w4 hpost
      obtain ⟨v4, rfl, ho4, hb4⟩ := menc_ok hpost hok
      have HL : Hid ((encM ⟨x, y0⟩).length = 256) := encM_len _
      obtain ⟨gs, c4, R, rfl, hgs, hblk4, hc4⟩ := ob_block ho4 (by rw [HL.out]; omega)
      rw [HL.out] at hc4 ⊢
      have HB4 := Lib.hid hblk4
      have hbw4 := bthen hbw2 hb4
      have hgsw : w.heap.size ≤ gs := Nat.le_trans hbw2.size hgs
      have HS0 : ∀ k, Hid (Crc.stateOf Crc.ones (encM ⟨x, y0⟩) = Crc.stateOf Crc.ones (encM ⟨x, y0⟩) ^^^ Crc.st (8 * (encM ⟨x, y0⟩).length - k) (Crc.top t 0)) := by
        intro k
        show Crc.stateOf Crc.ones (encM ⟨x, y0⟩) = Crc.stateOf Crc.ones (encM ⟨x, y0⟩) ^^^ Crc.st (8 * (encM ⟨x, y0⟩).length - k) 0#32
        rw [Crc.st_0, BitVec.xor_zero]
      clear hpost ho4 hblk4 cb0 cb1 henc
      obtain ⟨k, hk⟩ : ∃ k : Nat, (k : Int) = (at_ : Int) % 2017 := ⟨((at_ : Int) % 2017).toNat, by
        rw [Int.toNat_of_nonneg (Int.emod_nonneg _ (by omega))]⟩
      have hkl : k < 2017 := by
        have := Int.emod_lt_of_pos (at_ : Int) (show (0 : Int) < 2017 by omega)
        omega
      obtain ⟨E, hE⟩ : ∃ E, E = encM ⟨x, y0⟩ := ⟨_, rfl⟩
      rw [← hE] at HL HB4 HS0
      have HE := Lib.hid hE
      clear hE
      go_wp2
      first | rw [← hk] | skip
      clear hk
      go_loopw [10] (fun i wr => ∃ (j : Nat) (l : List UInt8), j ≤ 32 ∧ i = .int .i64 j ∧ Hid (l.length = 256) ∧ Hid (wr.heap[gs]? = some (.cells (bcells l ++ R).toArray 5 (0, 0))) ∧ Hid (Crc.stateOf Crc.ones l = Crc.stateOf Crc.ones E ^^^ Crc.st (8 * l.length - k) (Crc.top t j)) ∧ Hid ((k ≤ 1984 → tailB l = tailB E) ∧ (1984 < k → l.take 13 = E.take 13)) ∧ w4.grownBy wr (some gs)) (fun i _ => 32 - (intOf i).toNat)
      case atStart => exact ⟨0, E, by omega, rfl, HL, HB4, HS0 k, ⟨fun _ => rfl, fun _ => rfl⟩, World.grownBy.refl _ _⟩
      case round =>
        obtain ⟨j, l, hj, rfl, HL2, HB, HS, HP, hgr⟩ := hrel
        by_cases hlt : j < 32
        · have hbit := and1 t (31 - j) (by omega)
          have hp8 : (k + j) / 8 < l.length := by rw [HL2.out]; omega
          have hcell : wr.cell? ⟨gs, (k + j) / 8, none⟩ = some (.int .u8 (l[(k + j) / 8].toNat : Int)) := by
            rw [cell_of_block HB.out, List.getElem?_toArray, List.getElem?_append_left (by rw [bcells_length]; exact hp8)]
            simp [bcells, u8, hp8]
          have hfr : wr.frozen? ⟨gs, (k + j) / 8, none⟩ = false := by simp [World.frozen?, HB.out]
          obtain ⟨y, hy⟩ : ∃ y, y = l[(k + j) / 8] := ⟨_, rfl⟩
          rw [← hy] at hcell
          have HY := Lib.hid hy
          clear hy
          by_cases ht : t.getLsbD (31 - j) = true
          · rw [ht] at hbit
            obtain ⟨z, hz⟩ : ∃ z, z = UInt8.ofNat (128 >>> ((k + j) % 8)) := ⟨_, rfl⟩
            have hzn : ((128 : Int) / 2 ^ ((k + j) % 8)) = (z.toNat : Int) := by
              rw [hz]
              exact bit8 _ (Nat.mod_lt _ (by omega))
            have hx : bits .xor .u8 (y.toNat : Int) (128 / 2 ^ ((k + j) % 8)) = ((y ^^^ z).toNat : Int) := by rw [hzn, xor8]
            have HX := Lib.hid hx
            have HZ := Lib.hid hz
            have HT := Lib.hid ht
            have HP2 : Hid ((k ≤ 1984 → tailB (l.set ((k + j) / 8) (y ^^^ z)) = tailB E) ∧ (1984 < k → (l.set ((k + j) / 8) (y ^^^ z)).take 13 = E.take 13)) := by
              refine ⟨fun hk => ?_, fun hk => ?_⟩
              · rw [← HP.out.1 hk]
                unfold tailB
                rw [List.drop_set, if_pos (by omega)]
              · rw [← HP.out.2 hk]
                rw [List.take_set, List.set_eq_of_length_le (by rw [List.length_take]; omega)]
            clear hz hzn hx ht
            go_wp2
            rw [HX.out]
            refine ⟨⟨j + 1, l.set ((k + j) / 8) (y ^^^ z), by omega, by go_num, Lib.hid (by simpa using HL2.out), ?_, ?_, HP2, only_setCell hgr rfl _⟩, by simp [intOf]; omega⟩
            · refine (blk_set HB.out _ _).trans ?_
              simp [bcells, List.map_set, List.set_append, hp8, u8]
            · have := Crc.turn_bit l Crc.ones (Crc.stateOf Crc.ones E) t (k + j) k j hlt rfl (by rw [HL2.out]; omega) hp8 HS.out HT.out
              rw [← HY.out, ← HZ.out] at this
              show _ = _
              rw [List.length_set]
              exact this
          · have ht' : t.getLsbD (31 - j) = false := by simpa using ht
            rw [ht'] at hbit
            have HT := Lib.hid ht'
            clear ht ht'
            go_wp2
            exact ⟨⟨j + 1, l, by omega, by go_num, HL2, HB, Crc.turn_not l _ _ t k j HS.out HT.out, HP, hgr⟩, by simp [intOf]; omega⟩
        · have hj32 : j = 32 := by omega
          subst hj32
          have HD : Hid (decE l = 3) := by
            rcases dec_cases l with ⟨m', hokm, hencm, _⟩ | ⟨_, _, h2⟩
            · have hs := HS.out
              have hp := HP.out
              rw [HE.out] at hs hp
              refine absurd (turnedM (m := ⟨x, y0⟩) hok hokm hencm hs ?_) HT0.out
              rcases Nat.lt_or_ge 1984 k with h | h
              · exact .inr (hp.2 h)
              · exact .inl (hp.1 h)
            · exact h2
          have hb5 := below_only hbw4 hgr hbw4.size hgsw
          have hrd : Rd wr (some ⟨gs, 0, none⟩) l := rd_pre HB.out
          clear hgr HS HP HB
          go_wp2_with fail
          refine (mtDecode_any _ 256 c4 l wr (hh.below hb5) hrd HL2.out (by omega)).mono ?_
          rintro e w6 ⟨rfl, hb6⟩
          have hbw6 := bthen hb5 hb6
          rw [HD.out]
          obtain ⟨a, b, hab⟩ : ∃ a b, decV l = ⟨a, b⟩ := ⟨_, _, rfl⟩
          rw [hab]
          unfold metaV
          simp only
          have HB7 : Hid (Below w.heap.size w (w6.alloc (.cells #[.int .i64 a, .int .i64 b] 29))) := bthen hbw6 ((Below.refl _ _).alloc (Nat.le_refl _) _)
          clear hab hb6 hrd
          go_wp2
          go_ret
          exact ⟨rfl, HB7.out⟩
  · rw [decide_eq_false hok]
    go_wp2_with fail
    refine (mtAwake_any w2 (hh.below hbw2)).mono ?_
    rintro e w3 ⟨rfl, hb3⟩
    have hbw3 := bthen hbw2 hb3
    go_wp2
    go_ret
    exact ⟨rfl, hbw3⟩

theorem metaTurned_walk (p : MT) (x y : Int) (w : World) (hh : Half w) (hp : MI p) (hx : (Lit.int .u64 x).wf = true) (hy : (Lit.int .u32 y).wf = true) :
    Calls Tryd.prog 8 #[metaV p, .int .u64 x, .int .u32 y] w fun e w' => e = .returned (.bool true) ∧ Below w.heap.size w w' := by
  have hx' : 0 ≤ x ∧ x ≤ 18446744073709551615 := by simpa [Lit.wf, IntKind.min, IntKind.max, IntKind.signed, IntKind.bits] using hx
  have hy' : 0 ≤ y ∧ y ≤ 4294967295 := by simpa [Lit.wf, IntKind.min, IntKind.max, IntKind.signed, IntKind.bits] using hy
  obtain ⟨n, rfl⟩ := Int.eq_ofNat_of_zero_le hx'.1
  obtain ⟨m, rfl⟩ := Int.eq_ofNat_of_zero_le hy'.1
  have := metaTurned_walk0 p n (BitVec.ofNat 32 m) w hh hp (by omega)
  rwa [BitVec.toNat_ofNat, Nat.mod_eq_of_lt (by omega)] at this

end Go.Proofs.YtcgmaiadipiegaaDoor

namespace Go.Proofs.YtcgmaiadipiegaaDoor.metaTurned
open Go Go.ChangeShapes Go.WideShapes Go.ChangeAt Go.RowKit
open Go.ChangeMaps (open_string shut_string)
set_option linter.unusedVariables false

theorem own : ownKnob Tryd.prog.godebug = none := by kernel_rfl

theorem laidOut : laidOutB Tryd.prog = true := by kernel_rfl

set_option maxRecDepth 100000 in
theorem lifted (os : Os) (started : os.Started) (H : Type) (enc : TypeId × Value → H) :
    ReturnsInHanded {} Tryd.checked os 8 .any (fun w args => (Rows.metaTurnedSpec.pre enc Tryd.prog Tryd.f8 [] false w args ∧ laidMetH Tryd.prog laidL w) ∧ sizedMet enc Tryd.prog Tryd.f8 (OpenSpec.ofChange Rows.metaTurnedSpec) false w args)
      (Rows.metaTurnedSpec.post enc Tryd.prog Tryd.f8 false true false false) := by
  refine returnsInHanded_of_change_and (C := Tryd.checked) (X := fun w _ => laidMetH Tryd.prog laidL w) (fun _ _ _ hh h => h.of_heap hh) own started (by kernel_rfl) Tryd.func8
    (ChangeSpec.witness_shaped (enc := enc) (C := Tryd.checked) (os := os) (X := fun w _ => laidMetH Tryd.prog laidL w) false (World.doorLaid Tryd.prog 14 os) #[.agg #[.int .i64 0, .int .i64 0], .int .u64 0, .int .u32 0] 8 rfl (World.shaped_of_RefB (by kernel_rfl) (by kernel_rfl)) (by kernel_rfl) (by kernel_rfl) (by kernel_rfl) (door_met os _)) ?_
  intro W base args ds gs before hval0 hW hcnd hsz0 hL _
  have hval : ∀ (j : Nat) t v, Tryd.f8.params[j]? = some t → args[j]? = some v → Value.okWide Tryd.prog W .any base t v := hval0
  have hsz : (DataW.weightsEach Tryd.prog (Tryd.f8.params.toList ++ Rows.metaTurnedSpec.plain.varTypes Tryd.prog) (ds ++ gs)).all (· ≤ reachBytes) = true := hsz0
  have hW' := hW
  obtain ⟨p, q, hA0, hV, rfl, hfz, hnd⟩ := hW
  have hA : DataW.TrodAll enc Tryd.prog W 0 (fun _ => true) true Tryd.f8.params.toList args.toList ds p := hA0
  rw [Tryd.params8] at hA hval hsz
  obtain ⟨v0, vs0, d0, ds0, p0, q0, hargs, rfl, rfl, h0, r0⟩ := trodAll_cons hA
  obtain ⟨v1, vs1, d1, ds1, p1, q1, rfl, rfl, rfl, h1, r1⟩ := trodAll_cons r0
  obtain ⟨v2, vs2, d2, ds2, p2, q2, rfl, rfl, rfl, h2, r2⟩ := trodAll_cons r1
  obtain ⟨rfl, rfl, rfl⟩ := trodAll_nil r2
  obtain rfl : args = #[v0, v1, v2] := by cases args; simp_all
  obtain ⟨rfl, rfl⟩ := trodVars_none hV
  have k0 := h0
  have lt0 : ∀ x ∈ p0, x.block < W.heap.size := by obtain ⟨m, hm⟩ := k0; exact DataW.trod_lt m _ _ _ hm
  obtain ⟨a0, rfl, w0⟩ := open_meta (hval 0 23 v0 rfl rfl) h0
  obtain ⟨a1, rfl, rfl, rfl, w1⟩ := open_int Tryd.underlying50 (hval 1 50 v1 rfl rfl) h1
  obtain ⟨a2, rfl, rfl, rfl, w2⟩ := open_int Tryd.underlying51 (hval 2 51 v2 rfl rfl) h2
  clear hA0 hval0 hsz hsz0
  refine (metaTurned_walk a0 a1 a2 W (half_of_laid hL) w0 w1 w2).mono fun e W' ⟨he, bel⟩ => ?_
  subst he
  exact ⟨_, rfl, _, _, _, [], _, [], hW', trodAll_mk1 (shut_bool Tryd.underlying4 _), (trodAll_cons_mk (Below.trod laidOut (by kernel_rfl) (of_decide_eq_true (by kernel_rfl)) k0 bel lt0) (trodAll_cons_mk (shut_int Tryd.underlying50 w1) (trodAll_cons_mk (shut_int Tryd.underlying51 w2) trodAll_mk0))), rfl, bel.frame _, fun h => by cases h⟩

theorem over : Rows.MetaTurnedSaid :=
  OpenClaim.holds_of_wide 8 Tryd.f8 rfl rfl rfl rfl rfl rfl rfl ⟨rfl, rfl, rfl, rfl, rfl⟩ rfl rfl rfl rfl rfl (by kernel_rfl) Tryd.func8 (by kernel_rfl)
    (of_decide_eq_true (by kernel_rfl)) (by unfold Func.isWrapper; first | (rw [if_pos (by decide +kernel)]; kernel_rfl) | (rw [if_neg (by decide +kernel)]; exact ⟨rfl, rfl⟩))
    (fun os started H enc _ => lifted os started H enc)

theorem proved : Rows.MetaTurnedCardSaid :=
  Claim7.holds_tied_plain_at .later [] [.data] true (true, "ff6571c9258cc5ae1a33e9450d62fd3a3d2abbbe87473920b80c14b5ab16f570") false
    over (fun _ h => by cases h) (by kernel_rfl) (fun _ h => by cases h) metaTurned_row_tie rfl ⟨rfl, rfl⟩ (by kernel_rfl) rfl
    (fun f fn hf hfn => by
      obtain rfl : f = 8 := Option.some.inj ((show Tryd.prog.funcNamed "sapwood/sapwoodlaw06.MetaTurned" = some 8 by kernel_rfl).symm.trans hf) |>.symm
      obtain rfl : fn = Tryd.f8 := (Option.some.inj (Tryd.func8.symm.trans hfn)).symm
      exact ⟨by kernel_rfl, fun j t ht => by
        rw [Tryd.params8] at ht
        have hm : t ∈ [23, 50, 51] := by simpa using Array.mem_of_getElem? ht
        have hall : ([23, 50, 51].all fun u => !Tryd.prog.wantsStandIn u) = true := by kernel_rfl
        exact (show Tryd.prog.wantsStandIn t = false by simpa using List.all_eq_true.1 hall t hm)⟩)
    (by kernel_rfl)
#print axioms proved

end Go.Proofs.YtcgmaiadipiegaaDoor.metaTurned
