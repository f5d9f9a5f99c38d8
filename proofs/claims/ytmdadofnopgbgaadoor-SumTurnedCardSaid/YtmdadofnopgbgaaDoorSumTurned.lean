/-
  SumTurned: sealed bytes in which bits within 32 side by side are turned are not opened, for every string, every place and every pattern; no condition beyond the row's.
-/
import Derived.Test.YtmdadofnopgbgaaDoorSumAwake
import Derived.Test.YtmdadofnopgbgaaDoorSumLaid
import Derived.Test.YtmdadofnopgbgaaDoorRooms
import Derived.Test.YtmdadofnopgbgaaDoorTie
import Derived.Test.YtmdadofnopgbgaaDoorCards
import Derived.SevenTiedAt
namespace Go.Proofs.YtmdadofnopgbgaaDoor
open Go.RowKit
set_option linter.unusedVariables false

theorem and1 (t : BitVec 32) (i : Nat) (hi : i < 32) : (bits .and .u32 ((t.toNat : Int) / 2 ^ i) 1 == 1) = t.getLsbD i := by
  have hd : ((t.toNat : Int) / 2 ^ i) = ((t.toNat / 2 ^ i : Nat) : Int) := by simp
  have hl := t.isLt
  have hle : t.toNat / 2 ^ i ≤ t.toNat := Nat.div_le_self _ _
  have hv : bits .and .u32 ((t.toNat : Int) / 2 ^ i) 1 = ((t.toNat / 2 ^ i % 2 : Nat) : Int) := by
    rw [hd]
    show IntKind.u32.wrap ((BitVec.ofInt 32 ((t.toNat / 2 ^ i : Nat) : Int) &&& BitVec.ofInt 32 ((1 : Nat) : Int)).toNat : Int) = _
    rw [BitVec.ofInt_natCast, BitVec.ofInt_natCast, BitVec.toNat_and, BitVec.toNat_ofNat, BitVec.toNat_ofNat, Nat.mod_eq_of_lt (show t.toNat / 2 ^ i < 2 ^ 32 by omega), Nat.mod_eq_of_lt (show 1 < 2 ^ 32 by omega), Nat.and_one_is_mod, IntKind.wrap_u32]
    omega
  rw [hv, BitVec.getLsbD, Nat.testBit_eq_decide_div_mod_eq]
  have h2 : t.toNat / 2 ^ i % 2 = 0 ∨ t.toNat / 2 ^ i % 2 = 1 := by omega
  rcases h2 with h | h <;> simp [h]

theorem bit8 (r : Nat) (hr : r < 8) : ((128 : Int) / 2 ^ r) = ((UInt8.ofNat (128 >>> r)).toNat : Int) := by
  have : ∀ q : Fin 8, ((128 : Int) / 2 ^ q.val) = ((UInt8.ofNat (128 >>> q.val)).toNat : Int) := by decide +kernel
  exact this ⟨r, hr⟩

set_option maxHeartbeats 4000000 in
theorem sumTurned_walk0 (b : ByteArray) (at_ : Nat) (t : BitVec 32) (w : World) (hh : Half w) (hs : b.size ≤ 140737488351232) (hat : at_ < 18446744073709551616) :
    Calls Tryd.prog 5 #[.string b, .int .u64 (at_ : Int), .int .u32 (t.toNat : Int)] w fun e w' => e = .returned (.bool true) ∧ Below w.heap.size w w' := by
  obtain ⟨C, F, hcv, hF⟩ := bytes_of b
  by_cases hl : 5000 < b.size
  · go_enter Tryd.func5, Tryd.ntmps5
    go_wp2_with fail
    refine (awake_any w hh).mono ?_
    rintro e w1 ⟨rfl, hb1⟩
    go_wp2_with fail
    refine (awake_any w1 (hh.below hb1)).mono ?_
    rintro e w2 ⟨rfl, hb2⟩
    go_wp2
    go_ret
    exact ⟨rfl, bthen hb1 hb2⟩
  · go_enter Tryd.func5, Tryd.ntmps5
    go_wp2_with fail
    refine (awake_any w hh).mono ?_
    rintro e w1 ⟨rfl, hb1⟩
    obtain ⟨hr1, hc1, hb1'⟩ := hF w1
    have hb2 := bthen hb1 hb1'
    go_wp2_with fail
    refine (seal_any _ b.size (C w1) b.data.toList (F w1) (hh.below hb2) hr1 rfl (by omega)).mono ?_
    rintro e w3 ⟨rfl, hown3, hb3⟩
    have hb3' := bthen hb2 hb3
    have H3 := Lib.hid (own_len hown3)
    have hblk := Lib.hid (own_whole hown3)
    have hgs : w.heap.size ≤ (F w1).heap.size := hb2.size
    have HS0 : ∀ k, Hid (Crc.stateOf Crc.ones (Crc.sealed b.data.toList) = Crc.st 32 Crc.ones ^^^ Crc.st (8 * (Crc.sealed b.data.toList).length - k) (Crc.top t 0)) := by
      intro k
      show Crc.stateOf Crc.ones (Crc.sealed b.data.toList) = Crc.st 32 Crc.ones ^^^ Crc.st (8 * (Crc.sealed b.data.toList).length - k) 0#32
      rw [Crc.st_0, BitVec.xor_zero]
      exact (Crc.isSealed_iff _ (by rw [H3.out]; omega)).1 (Crc.sealed_isSealed _)
    generalize (F w1).heap.size = gs at *
    go_wp2
    obtain ⟨k, hk⟩ : ∃ k : Nat, (k : Int) = (at_ : Int) % (8 * ((b.size : Int) + 4) - 31) := ⟨((at_ : Int) % (8 * ((b.size : Int) + 4) - 31)).toNat, by
      rw [Int.toNat_of_nonneg (Int.emod_nonneg _ (by omega))]⟩
    have hkl : (k : Int) < 8 * ((b.size : Int) + 4) - 31 := by
      rw [hk]; exact Int.emod_lt_of_pos _ (by omega)
    have hkw : wrap64 ((at_ : Int) % (8 * ((b.size : Int) + 4) - 31)) = (k : Int) := by
      rw [← hk]
      unfold wrap64
      omega
    rw [hkw, ← hk]
    clear hkw hk
    go_loopw [9] (fun i wr => ∃ (j : Nat) (l : List UInt8), j ≤ 32 ∧ i = .int .i64 j ∧ Hid (l.length = b.size + 4) ∧ Hid (wr.heap[gs]? = some (.cells (bcells l).toArray 5 (0, 0))) ∧ Hid (Crc.stateOf Crc.ones l = Crc.st 32 Crc.ones ^^^ Crc.st (8 * l.length - k) (Crc.top t j)) ∧ w3.grownBy wr (some gs)) (fun i _ => 32 - (intOf i).toNat)
    case atStart => exact ⟨0, Crc.sealed b.data.toList, by omega, rfl, H3, hblk, HS0 k, World.grownBy.refl _ _⟩
    case round =>
      obtain ⟨j, l, hj, rfl, HL, HB, HS, hgr⟩ := hrel
      by_cases hlt : j < 32
      · have hbit := and1 t (31 - j) (by omega)
        have hp8 : (k + j) / 8 < l.length := by rw [HL.out]; omega
        have hcell : wr.cell? ⟨gs, (k + j) / 8, none⟩ = some (.int .u8 (l[(k + j) / 8].toNat : Int)) := by
          rw [cell_of_block HB.out]
          simp [bcells, u8, hp8]
        have hfr : wr.frozen? ⟨gs, (k + j) / 8, none⟩ = false := by simp [World.frozen?, HB.out]
        obtain ⟨y, hy⟩ : ∃ y, y = l[(k + j) / 8] := ⟨_, rfl⟩
        rw [← hy] at hcell
        have HY := Lib.hid hy
        clear hy
        by_cases ht : t.getLsbD (31 - j) = true
        · rw [ht] at hbit
          obtain ⟨z, hz⟩ : ∃ z, z = UInt8.ofNat (128 >>> ((k + j) % 8)) := ⟨_, rfl⟩
          have hzn : ((128 : Int) / 2 ^ ((k + j) % 8)) = (z.toNat : Int) := by
            rw [hz]
            exact bit8 _ (Nat.mod_lt _ (by omega))
          have hx : bits .xor .u8 (y.toNat : Int) (128 / 2 ^ ((k + j) % 8)) = ((y ^^^ z).toNat : Int) := by rw [hzn, xor8]
          have HX := Lib.hid hx
          have HZ := Lib.hid hz
          have HT := Lib.hid ht
          clear hz hzn hx ht
          go_wp2
          rw [HX.out]
          refine ⟨⟨j + 1, l.set ((k + j) / 8) (y ^^^ z), by omega, by go_num, Lib.hid (by simpa using HL.out), ?_, ?_, only_setCell hgr rfl _⟩, by simp [intOf]; omega⟩
          · refine (blk_set HB.out _ _).trans ?_
            simp [bcells, List.map_set, u8]
          · have := Crc.turn_bit l Crc.ones (Crc.st 32 Crc.ones) t (k + j) k j hlt rfl (by rw [HL.out]; omega) hp8 HS.out HT.out
            rw [← HY.out, ← HZ.out] at this
            show _ = _
            rw [List.length_set]
            exact this
        · have ht' : t.getLsbD (31 - j) = false := by simpa using ht
          rw [ht'] at hbit
          have HT := Lib.hid ht'
          clear ht ht'
          go_wp2
          exact ⟨⟨j + 1, l, by omega, by go_num, HL, HB, Crc.turn_not l _ _ t k j HS.out HT.out, hgr⟩, by simp [intOf]; omega⟩
      · have hj32 : j = 32 := by omega
        subst hj32
        have hsl := Crc.turned b.data.toList l k t HL.out HS.out
        have HSL := Lib.hid hsl
        have hb4 := below_only hb3' hgr hb3'.size hgs
        have hrd : Rd wr (some ⟨gs, 0, none⟩) l := by
          have := rd_block (w := wr) HB.out 0 l.length
          rwa [List.drop_zero, List.take_of_length_le (Nat.le_refl _)] at this
        clear hsl hgr
        go_wp2_with fail
        refine (open_any _ (b.size + 4) (b.size + 4) l wr (hh.below hb4) hrd HL.out (Nat.le_refl _) (by omega)).mono ?_
        rintro e w5 (⟨A5, c5, rfl, hyes, hown5, hb5⟩ | ⟨rfl, hno, hb5⟩)
        · have ht0 : t = 0#32 := by
            have := HSL.out
            rw [hyes.2] at this
            simpa using this.symm
          subst ht0
          clear hyes
          go_wp2
          go_ret
          exact ⟨rfl, bthen hb4 hb5⟩
        · have ht0 : t.toNat ≠ 0 := by
            intro h0
            apply hno
            refine ⟨by omega, ?_⟩
            rw [HSL.out]
            have : t = 0#32 := BitVec.eq_of_toNat_eq (by simpa using h0)
            simpa using this
          have hne : (((t.toNat : Nat) : Int) == 0) = false := by simpa using ht0
          clear hno
          go_wp2
          go_ret
          exact ⟨rfl, bthen hb4 hb5⟩

theorem sumTurned_walk (b : ByteArray) (x y : Int) (w : World) (hh : Half w) (hs : b.size ≤ 140737488351232) (hx : (Lit.int .u64 x).wf = true) (hy : (Lit.int .u32 y).wf = true) :
    Calls Tryd.prog 5 #[.string b, .int .u64 x, .int .u32 y] w fun e w' => e = .returned (.bool true) ∧ Below w.heap.size w w' := by
  have hx' : 0 ≤ x ∧ x ≤ 18446744073709551615 := by simpa [Lit.wf, IntKind.min, IntKind.max, IntKind.signed, IntKind.bits] using hx
  have hy' : 0 ≤ y ∧ y ≤ 4294967295 := by simpa [Lit.wf, IntKind.min, IntKind.max, IntKind.signed, IntKind.bits] using hy
  obtain ⟨n, rfl⟩ := Int.eq_ofNat_of_zero_le hx'.1
  obtain ⟨m, rfl⟩ := Int.eq_ofNat_of_zero_le hy'.1
  have := sumTurned_walk0 b n (BitVec.ofNat 32 m) w hh hs (by omega)
  rwa [BitVec.toNat_ofNat, Nat.mod_eq_of_lt (by omega)] at this

end Go.Proofs.YtmdadofnopgbgaaDoor

namespace Go.Proofs.YtmdadofnopgbgaaDoor.sumTurned
open Go Go.ChangeShapes Go.WideShapes Go.ChangeAt Go.RowKit
open Go.ChangeMaps (open_string shut_string)
set_option linter.unusedVariables false

theorem own : ownKnob Tryd.prog.godebug = none := by kernel_rfl

set_option maxRecDepth 100000 in
theorem lifted (os : Os) (started : os.Started) (H : Type) (enc : TypeId × Value → H) :
    ReturnsInHanded {} Tryd.checked os 5 .any (fun w args => (Rows.sumTurnedSpec.pre enc Tryd.prog Tryd.f5 [] false w args ∧ laidMetH Tryd.prog laidL w) ∧ sizedMet enc Tryd.prog Tryd.f5 (OpenSpec.ofChange Rows.sumTurnedSpec) false w args)
      (Rows.sumTurnedSpec.post enc Tryd.prog Tryd.f5 false true false false) := by
  refine returnsInHanded_of_change_and (C := Tryd.checked) (X := fun w _ => laidMetH Tryd.prog laidL w) (fun _ _ _ hh h => h.of_heap hh) own started (by kernel_rfl) Tryd.func5
    (ChangeSpec.witness_shaped (enc := enc) (C := Tryd.checked) (os := os) (X := fun w _ => laidMetH Tryd.prog laidL w) false (World.doorLaid Tryd.prog 14 os) #[.string ByteArray.empty, .int .u64 0, .int .u32 0] 8 rfl (World.shaped_of_RefB (by kernel_rfl) (by kernel_rfl)) (by kernel_rfl) (by kernel_rfl) (by kernel_rfl) (door_met os _)) ?_
  intro W base args ds gs before hval0 hW hcnd hsz0 hL _
  have hval : ∀ (j : Nat) t v, Tryd.f5.params[j]? = some t → args[j]? = some v → Value.okWide Tryd.prog W .any base t v := hval0
  have hsz : (DataW.weightsEach Tryd.prog (Tryd.f5.params.toList ++ Rows.sumTurnedSpec.plain.varTypes Tryd.prog) (ds ++ gs)).all (· ≤ reachBytes) = true := hsz0
  have hW' := hW
  obtain ⟨p, q, hA0, hV, rfl, hfz, hnd⟩ := hW
  have hA : DataW.TrodAll enc Tryd.prog W 0 (fun _ => true) true Tryd.f5.params.toList args.toList ds p := hA0
  rw [Tryd.params5] at hA hval hsz
  obtain ⟨v0, vs0, d0, ds0, p0, q0, hargs, rfl, rfl, h0, r0⟩ := trodAll_cons hA
  obtain ⟨v1, vs1, d1, ds1, p1, q1, rfl, rfl, rfl, h1, r1⟩ := trodAll_cons r0
  obtain ⟨v2, vs2, d2, ds2, p2, q2, rfl, rfl, rfl, h2, r2⟩ := trodAll_cons r1
  obtain ⟨rfl, rfl, rfl⟩ := trodAll_nil r2
  obtain rfl : args = #[v0, v1, v2] := by cases args; simp_all
  obtain ⟨rfl, rfl⟩ := trodVars_none hV
  obtain ⟨a0, rfl, rfl, rfl, w0⟩ := open_string Tryd.underlying9 (hval 0 9 v0 rfl rfl) h0
  obtain ⟨a1, rfl, rfl, rfl, w1⟩ := open_int Tryd.underlying34 (hval 1 34 v1 rfl rfl) h1
  obtain ⟨a2, rfl, rfl, rfl, w2⟩ := open_int Tryd.underlying28 (hval 2 28 v2 rfl rfl) h2
  have z0 : a0.data.toList.length ≤ reachBytes := sized_string hsz (j := 0) (t := 9) rfl rfl
  have y0 : a0.size ≤ 140737488351232 := z0
  clear hA0 hval0 hsz hsz0
  simp only [List.append_nil] at hW'
  refine (sumTurned_walk a0 a1 a2 W (half_of_laid hL) y0 w1 w2).mono fun e W' ⟨he, bel⟩ => ?_
  subst he
  exact ⟨_, rfl, _, _, _, [], [], [], hW', trodAll_mk1 (shut_bool Tryd.underlying4 _), (trodAll_cons_mk (shut_string Tryd.underlying9 w0) (trodAll_cons_mk (shut_int Tryd.underlying34 w1) (trodAll_cons_mk (shut_int Tryd.underlying28 w2) trodAll_mk0))), rfl, bel.frame _, fun h => by cases h⟩

theorem over : Rows.SumTurnedSaid :=
  OpenClaim.holds_of_wide 5 Tryd.f5 rfl rfl rfl rfl rfl rfl rfl ⟨rfl, rfl, rfl, rfl, rfl⟩ rfl rfl rfl rfl rfl (by kernel_rfl) Tryd.func5 (by kernel_rfl)
    (of_decide_eq_true (by kernel_rfl)) (by unfold Func.isWrapper; first | (rw [if_pos (by decide +kernel)]; kernel_rfl) | (rw [if_neg (by decide +kernel)]; exact ⟨rfl, rfl⟩))
    (fun os started H enc _ => lifted os started H enc)

theorem proved : Rows.SumTurnedCardSaid :=
  Claim7.holds_tied_plain_at .later [] [.data] true (true, "d16a18b312e7b072c3f036a8e61b2d0280fd23f419d00274463700ddae1bba83") false
    over (fun _ h => by cases h) (by kernel_rfl) (fun _ h => by cases h) sumTurned_row_tie rfl ⟨rfl, rfl⟩ (by kernel_rfl) rfl
    (fun f fn hf hfn => by
      obtain rfl : f = 5 := Option.some.inj ((show Tryd.prog.funcNamed "sapwood/sapwoodlaw02.SumTurned" = some 5 by kernel_rfl).symm.trans hf) |>.symm
      obtain rfl : fn = Tryd.f5 := (Option.some.inj (Tryd.func5.symm.trans hfn)).symm
      exact ⟨by kernel_rfl, fun j t ht => by
        rw [Tryd.params5] at ht
        have hm : t ∈ [9, 34, 28] := by simpa using Array.mem_of_getElem? ht
        have hall : ([9, 34, 28].all fun u => !Tryd.prog.wantsStandIn u) = true := by kernel_rfl
        exact (show Tryd.prog.wantsStandIn t = false by simpa using List.all_eq_true.1 hall t hm)⟩)
    (by kernel_rfl)
#print axioms proved

end Go.Proofs.YtmdadofnopgbgaaDoor.sumTurned
