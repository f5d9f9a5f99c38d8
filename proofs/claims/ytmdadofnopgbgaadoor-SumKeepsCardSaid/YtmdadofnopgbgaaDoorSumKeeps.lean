/-
  SumKeeps: what goes in stays as it is, its spare room too, and what comes out is memory of its own, for every string; no condition beyond the row's.
-/
import Derived.Test.YtmdadofnopgbgaaDoorSumAwake
import Derived.Test.YtmdadofnopgbgaaDoorSumLaid
import Derived.Test.YtmdadofnopgbgaaDoorRooms
import Derived.Test.YtmdadofnopgbgaaDoorTie
import Derived.Test.YtmdadofnopgbgaaDoorCards
import Derived.SevenTiedAt
namespace Go.Proofs.YtmdadofnopgbgaaDoor
open Go.RowKit
set_option linter.unusedVariables false

set_option maxRecDepth 100000 in
set_option maxHeartbeats 4000000 in
theorem sumKeeps_walk (b : ByteArray) (w : World) (hh : Half w) (hs : b.size ≤ 140737488351232) :
    Calls Tryd.prog 7 #[.string b] w fun e w' => e = .returned (.bool true) ∧ Below w.heap.size w w' := by
  by_cases hl : 5000 < b.size
  · go_enter Tryd.func7, Tryd.ntmps7
    go_wp2_with fail
    refine (awake_any w hh).mono ?_
    rintro e w1 ⟨rfl, hb1⟩
    go_wp2_with fail
    refine (awake_any w1 (hh.below hb1)).mono ?_
    rintro e w2 ⟨rfl, hb2⟩
    go_wp2
    go_ret
    exact ⟨rfl, bthen hb1 hb2⟩
  · obtain ⟨c, hc⟩ : ∃ c, c = b.size + 8 := ⟨_, rfl⟩
    have hci : ((b.size : Int) + 8) = (c : Int) := by omega
    have hmk : ∀ w : World, (Instr.makeSlice 23 (.int .i64 (b.size : Int)) (.int .i64 ((b.size : Int) + 8))).run Tryd.prog w =
        .ok (.slice (some ⟨w.heap.size, 0, none⟩) b.size c) (w.alloc (.cells (madeCells #[.int .u8 0] c) 5)) := by
      intro w
      rw [hci]
      exact run_make_bytes b.size c (by omega) (by omega) w
    obtain ⟨M, hcp, hM⟩ := room_of b 8 c hc
    have HM := Lib.hid hM
    have Hci := Lib.hid hci
    have hclo : b.size + 8 ≤ c := by omega
    have hchi : c ≤ b.size + 8 := by omega
    clear hc hM hci
    go_enter Tryd.func7, Tryd.ntmps7
    go_wp2_with fail
    refine (awake_any w hh).mono ?_
    rintro e w1 ⟨rfl, hb1⟩
    go_wp2_with fail
    obtain ⟨hroom, hb2⟩ := HM.out w1
    generalize M w1 = w2 at *
    have hR0 : w1.heap.size < w2.heap.size := lt_of_block hroom
    have hb02 := bthen hb1 hb2
    have hRw : w.heap.size ≤ w1.heap.size := hb1.size
    generalize w1.heap.size = R0 at *
    have Hroom := Lib.hid hroom
    clear hmk hcp HM hb1 hb2 hroom w1
    refine (seal_any _ b.size c b.data.toList w2 (hh.below hb02) (rd_pre Hroom.out) rfl (by omega)).mono ?_
    rintro e w3 ⟨rfl, own3, hb3⟩
    have hb03 := bthen hb02 hb3
    have hxs := XRow.of_own own3
    have H3 := Lib.hid (own_len own3)
    have hgs : w.heap.size ≤ w2.heap.size := hb02.size
    have hroom3 : w3.heap[R0]? = some (.cells (bcells b.data.toList ++ List.replicate 8 (Value.int .u8 0)).toArray 5 (0, 0)) := by
      rw [hb3.block R0 (by omega)]
      exact Hroom.out
    generalize w2.heap.size = gs at *
    have Hroom3 := Lib.hid hroom3
    clear Hroom hroom3
    go_wp2
    go_loop [6] (fun i => ∃ k : Nat, b.size ≤ k ∧ k ≤ b.size + 8 ∧ i = .int .i64 k) (fun i => b.size + 8 - (intOf i).toNat)
    case atStart => exact ⟨b.size, Nat.le_refl _, by omega, rfl⟩
    case round =>
      obtain ⟨k, hk1, hk2, rfl⟩ := hrel
      by_cases hlt : k < b.size + 8
      · have hcell : w3.cell? ⟨R0, k, none⟩ = some (.int .u8 0) := by
          rw [cell_of_block Hroom3.out, List.getElem?_toArray, List.getElem?_append_right (by rw [bcells_length, data_len]; omega), bcells_length, data_len]
          rw [List.getElem?_replicate, if_pos (by omega)]
        go_wp2
        exact ⟨⟨k + 1, by omega, by omega, by go_num⟩, by simp [intOf]; omega⟩
      clear hk1 hk2
      go_wp2_with fail
      refine (open_any _ (b.size + 4) (b.size + 4) (Crc.sealed b.data.toList) w3 (hh.below hb03) (Rd.of_own own3) H3.out (Nat.le_refl _) (by omega)).mono ?_
      rintro e w4 (⟨gx, cx, rfl, _, own4, hb4⟩ | ⟨rfl, hno, hb4⟩)
      · rw [Nat.add_sub_cancel] at own4
        have hb04 := bthen hb03 hb4
        have hgx1 : w3.heap.size ≤ gx := (own4.lt gx rfl).1
        have hxx := XRow.of_own own4
        clear own4
        go_wp2_with fail
        refine (open_any _ (b.size + 4) (b.size + 4) (Crc.sealed b.data.toList) w4 (hh.below hb04) ((Rd.of_own own3).below hb4) H3.out (Nat.le_refl _) (by omega)).mono ?_
        rintro e w5 (⟨gy, cy, rfl, _, own5, hb5⟩ | ⟨rfl, hno, hb5⟩)
        · rw [Nat.add_sub_cancel, show (Crc.sealed b.data.toList).take b.size = b.data.toList from Crc.sealed_take _] at own5
          have hb05 := bthen hb04 hb5
          have hgy1 : w4.heap.size ≤ gy := (own5.lt gy rfl).1
          have hgy2 : gy < w5.heap.size := own_lt own5
          have hgx2 : gx < w4.heap.size := hxx.1
          have hgs2 : gs < w3.heap.size := hxs.1
          have hx5 : XRow w5 gx b.size := hxx.below hb5
          have hs5 : XRow w5 gs (b.size + 4) := (hxs.below hb4).below hb5
          have hroom5 : w5.heap[R0]? = some (.cells (bcells b.data.toList ++ List.replicate 8 (Value.int .u8 0)).toArray 5 (0, 0)) := by
            rw [hb5.block R0 (by omega), hb4.block R0 (by omega)]
            exact Hroom3.out
          have Hroom5 := Lib.hid hroom5
          have Own5 := Lib.hid own5
          clear hroom5 own5 Hroom3 own3 hxx hxs hb3 hb4 hb5 hb03 hb04 hb02
          go_wp2
          go_loopw [62] (fun i wr => ∃ j : Nat, j ≤ b.size ∧ i = .int .i64 j ∧ XRow wr gx b.size ∧ w5.grownBy wr (some gx)) (fun i _ => b.size - (intOf i).toNat)
          case atStart => exact ⟨0, Nat.zero_le _, rfl, hx5, World.grownBy.refl _ _⟩
          case round =>
            obtain ⟨j, hj, rfl, hxr, hgr⟩ := hrel
            by_cases hlt2 : j < b.size
            · obtain ⟨⟨v, hcell⟩, hfr⟩ := hxr.2 j hlt2
              have HX := Lib.hid hxr
              clear hxr
              go_wp2
              exact ⟨⟨j + 1, by omega, by go_num, HX.out.set j _, only_setCell hgr rfl _⟩, by simp [intOf]; omega⟩
            have hgr6 := hgr
            have hs6 : XRow wr gs (b.size + 4) := hs5.block (hgr.block gs hs5.1 (fun e => by cases e; omega)) (Nat.lt_of_lt_of_le hs5.1 hgr.size)
            clear hxr hgr
            generalize wr = w6 at *
            go_wp2
            go_loopw [74] (fun i wq => ∃ j : Nat, j ≤ b.size + 4 ∧ i = .int .i64 j ∧ XRow wq gs (b.size + 4) ∧ w6.grownBy wq (some gs)) (fun i _ => b.size + 4 - (intOf i).toNat)
            case atStart => exact ⟨0, Nat.zero_le _, rfl, hs6, World.grownBy.refl _ _⟩
            case round =>
              obtain ⟨j2, hj2, rfl, hxr2, hgr2⟩ := hrel
              by_cases hlt3 : j2 < b.size + 4
              · obtain ⟨⟨v, hcell⟩, hfr⟩ := hxr2.2 j2 hlt3
                have HX := Lib.hid hxr2
                clear hxr2
                go_wp2
                exact ⟨⟨j2 + 1, by omega, by go_num, HX.out.set j2 _, only_setCell hgr2 rfl _⟩, by simp [intOf]; omega⟩
              clear hxr2
              have s56 := hgr6.size
              have keep : ∀ q, q < w5.heap.size → q ≠ gx → q ≠ gs → wr.heap[q]? = w5.heap[q]? := fun q h1 h2 h3 =>
                (hgr2.block q (by omega) (fun e => h3 (Option.some.inj e))).trans (hgr6.block q h1 (fun e => h2 (Option.some.inj e)))
              have k6 := below_only hb05 hgr6 hb05.size (by have := hb05.size; omega)
              have k7 := below_only k6 hgr2 k6.size (by omega)
              have cvR : (convert 23 9 (.slice (some ⟨R0, 0, none⟩) b.size c)).run Tryd.prog wr = .ok (.string b) wr := by
                refine conv_str (rd_pre (rest := List.replicate 8 (Value.int .u8 0)) ?_)
                rw [keep R0 (by omega) (by omega) (by omega)]
                exact Hroom5.out
              have cvY : (convert 23 9 (.slice (some ⟨gy, 0, none⟩) b.size cy)).run Tryd.prog wr = .ok (.string b) wr := by
                have := conv_own Own5.out wr (keep gy (by omega) (by omega) (by omega))
                simpa using this
              clear hgr2 hgr6 keep
              go_wp2
              go_ret
              exact ⟨rfl, k7⟩
        · exact absurd ⟨by omega, Crc.sealed_isSealed _⟩ hno
      · exact absurd ⟨by omega, Crc.sealed_isSealed _⟩ hno

end Go.Proofs.YtmdadofnopgbgaaDoor

namespace Go.Proofs.YtmdadofnopgbgaaDoor.sumKeeps
open Go Go.ChangeShapes Go.WideShapes Go.ChangeAt Go.RowKit
open Go.ChangeMaps (open_string shut_string)
set_option linter.unusedVariables false

theorem own : ownKnob Tryd.prog.godebug = none := by kernel_rfl

set_option maxRecDepth 100000 in
theorem lifted (os : Os) (started : os.Started) (H : Type) (enc : TypeId × Value → H) :
    ReturnsInHanded {} Tryd.checked os 7 .any (fun w args => (Rows.sumKeepsSpec.pre enc Tryd.prog Tryd.f7 [] false w args ∧ laidMetH Tryd.prog laidL w) ∧ sizedMet enc Tryd.prog Tryd.f7 (OpenSpec.ofChange Rows.sumKeepsSpec) false w args)
      (Rows.sumKeepsSpec.post enc Tryd.prog Tryd.f7 false true false false) := by
  refine returnsInHanded_of_change_and (C := Tryd.checked) (X := fun w _ => laidMetH Tryd.prog laidL w) (fun _ _ _ hh h => h.of_heap hh) own started (by kernel_rfl) Tryd.func7
    (ChangeSpec.witness_shaped (enc := enc) (C := Tryd.checked) (os := os) (X := fun w _ => laidMetH Tryd.prog laidL w) false (World.doorLaid Tryd.prog 14 os) #[.string ByteArray.empty] 8 rfl (World.shaped_of_RefB (by kernel_rfl) (by kernel_rfl)) (by kernel_rfl) (by kernel_rfl) (by kernel_rfl) (door_met os _)) ?_
  intro W base args ds gs before hval0 hW hcnd hsz0 hL _
  have hval : ∀ (j : Nat) t v, Tryd.f7.params[j]? = some t → args[j]? = some v → Value.okWide Tryd.prog W .any base t v := hval0
  have hsz : (DataW.weightsEach Tryd.prog (Tryd.f7.params.toList ++ Rows.sumKeepsSpec.plain.varTypes Tryd.prog) (ds ++ gs)).all (· ≤ reachBytes) = true := hsz0
  have hW' := hW
  obtain ⟨p, q, hA0, hV, rfl, hfz, hnd⟩ := hW
  have hA : DataW.TrodAll enc Tryd.prog W 0 (fun _ => true) true Tryd.f7.params.toList args.toList ds p := hA0
  rw [Tryd.params7] at hA hval hsz
  obtain ⟨v0, vs0, d0, ds0, p0, q0, hargs, rfl, rfl, h0, r0⟩ := trodAll_cons hA
  obtain ⟨rfl, rfl, rfl⟩ := trodAll_nil r0
  obtain rfl : args = #[v0] := by cases args; simp_all
  obtain ⟨rfl, rfl⟩ := trodVars_none hV
  obtain ⟨a0, rfl, rfl, rfl, w0⟩ := open_string Tryd.underlying9 (hval 0 9 v0 rfl rfl) h0
  have z0 : a0.data.toList.length ≤ reachBytes := sized_string hsz (j := 0) (t := 9) rfl rfl
  have y0 : a0.size ≤ 140737488351232 := z0
  clear hA0 hval0 hsz hsz0
  simp only [List.append_nil] at hW'
  refine (sumKeeps_walk a0 W (half_of_laid hL) y0).mono fun e W' ⟨he, bel⟩ => ?_
  subst he
  exact ⟨_, rfl, _, _, _, [], [], [], hW', trodAll_mk1 (shut_bool Tryd.underlying4 _), (trodAll_cons_mk (shut_string Tryd.underlying9 w0) trodAll_mk0), rfl, bel.frame _, fun h => by cases h⟩

theorem over : Rows.SumKeepsSaid :=
  OpenClaim.holds_of_wide 7 Tryd.f7 rfl rfl rfl rfl rfl rfl rfl ⟨rfl, rfl, rfl, rfl, rfl⟩ rfl rfl rfl rfl rfl (by kernel_rfl) Tryd.func7 (by kernel_rfl)
    (of_decide_eq_true (by kernel_rfl)) (by unfold Func.isWrapper; first | (rw [if_pos (by decide +kernel)]; kernel_rfl) | (rw [if_neg (by decide +kernel)]; exact ⟨rfl, rfl⟩))
    (fun os started H enc _ => lifted os started H enc)

theorem proved : Rows.SumKeepsCardSaid :=
  Claim7.holds_tied_plain_at .later [] [.data] true (true, "d16a18b312e7b072c3f036a8e61b2d0280fd23f419d00274463700ddae1bba83") false
    over (fun _ h => by cases h) (by kernel_rfl) (fun _ h => by cases h) sumKeeps_row_tie rfl ⟨rfl, rfl⟩ (by kernel_rfl) rfl
    (fun f fn hf hfn => by
      obtain rfl : f = 7 := Option.some.inj ((show Tryd.prog.funcNamed "sapwood/sapwoodlaw02.SumKeeps" = some 7 by kernel_rfl).symm.trans hf) |>.symm
      obtain rfl : fn = Tryd.f7 := (Option.some.inj (Tryd.func7.symm.trans hfn)).symm
      exact ⟨by kernel_rfl, fun j t ht => by
        rw [Tryd.params7] at ht
        have hm : t ∈ [9] := by simpa using Array.mem_of_getElem? ht
        have hall : ([9].all fun u => !Tryd.prog.wantsStandIn u) = true := by kernel_rfl
        exact (show Tryd.prog.wantsStandIn t = false by simpa using List.all_eq_true.1 hall t hm)⟩)
    (by kernel_rfl)
#print axioms proved

end Go.Proofs.YtmdadofnopgbgaaDoor.sumKeeps
