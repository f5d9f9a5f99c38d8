/-
  The contract of the device's Crash; conditions stand at each.
-/
import Derived.Test.YthjgcbpanfiacaaDevApply
namespace Go.Proofs.Ythjgcbpanfiacaa
open Go.RowKit Go.Sort
set_option linter.unusedVariables false

theorem and_one (a : Nat) (ha : a < 18446744073709551616) : bits .and .u64 (a : Int) 1 = ((a % 2 : Nat) : Int) := by
  show IntKind.u64.wrap ((BitVec.ofInt 64 (a : Int) &&& BitVec.ofInt 64 1).toNat : Int) = _
  rw [show (1 : Int) = ((1 : Nat) : Int) from rfl, BitVec.ofInt_natCast, BitVec.ofInt_natCast, BitVec.toNat_and, BitVec.toNat_ofNat, BitVec.toNat_ofNat, Nat.mod_eq_of_lt ha, show 1 % 2 ^ 64 = 1 from rfl, Nat.and_one_is_mod, IntKind.wrap_u64]
  omega
theorem keep_bit (keep k : Nat) (hk : keep < 18446744073709551616) : bits .and .u64 ((keep : Int) / 2 ^ (k % 64)) 1 = ((keep / 2 ^ (k % 64) % 2 : Nat) : Int) := by
  have h : (keep : Int) / 2 ^ (k % 64) = ((keep / 2 ^ (k % 64) : Nat) : Int) := by simp
  rw [h]
  exact and_one _ (Nat.lt_of_le_of_lt (Nat.div_le_self _ _) hk)

theorem crash_nil (keep : Int) (torn part : Int) (w : World) : Calls Try.prog 20 #[.pointer none, .int .u64 keep, .int .i64 torn, .int .i64 part] w fun e w' => e = .returned (.tuple #[]) ∧ w' = w := by
  go_enter Try.func20, Try.ntmps20
  go_wp2
  first | go_end0 | refine bodyPost_ret (results_none Try.results20 _ _ _) rfl ?_
  exact ⟨rfl, rfl⟩

set_option maxHeartbeats 4000000 in
set_option maxRecDepth 100000 in
theorem crash_any {w : World} {b n : Nat} {st : List UInt8} {pd : List WR} {F : Nat → Prop} (keep : Nat) (torn part : Int) (hd : Dev w b n st pd F) (hfew : pd.length ≤ 1000000) (hkeep : keep < 18446744073709551616) :
    Calls Try.prog 20 #[.pointer (some ⟨b, 0, none⟩), .int .u64 (keep : Int), .int .i64 torn, .int .i64 part] w fun e w' =>
      e = .returned (.tuple #[]) ∧ Dev w' b n (crashN keep torn part st pd pd.length) [] F ∧ Keep F w w' := by
  obtain ⟨g, v, hat, hF⟩ := hd
  obtain ⟨A, c, rfl⟩ := hat.form
  have h1 := cell_at hat.box 1 (.slice A pd.length c) rfl
  have hsm := hat.small
  have HAT := Lib.hid hat
  have HF := Lib.hid hF
  have HK := Lib.hid hkeep
  obtain ⟨m, hm⟩ : ∃ m, m = pd.length := ⟨_, rfl⟩
  rw [← hm] at h1 hfew ⊢
  have Hm := Lib.hid hm
  clear hat hm hF hkeep
  go_enter Try.func20, Try.ntmps20
  go_wp2
  go_loopw [17] (fun i wr => ∃ k : Nat, k ≤ m ∧ i = .int .i64 k ∧ wr.heap[g]? = some (.cells (bcells (crashN keep torn part st pd k)).toArray 5 (0, 0)) ∧ w.grownBy wr (some g)) (fun i _ => m - (intOf i).toNat)
  case atStart => exact ⟨0, Nat.zero_le _, rfl, HAT.out.row, grown_refl _ _⟩
  case round =>
    obtain ⟨k, hk, rfl, hrow, hgr⟩ := hrel
    have HROW := Lib.hid hrow
    have HGR := Lib.hid hgr
    clear hrow hgr
    by_cases hlt : k < m
    · obtain ⟨q, c', x, hv, hx, hqg, hql, hc1, hcp, hrd⟩ := HAT.out.grown HGR.out (Ne.symm HAT.out.bg) HAT.out.gv (i := k) (by rw [← Hm.out]; exact hlt)
      rw [← Hm.out] at hv
      cases hv
      rw [← Hm.out] at hc1
      have HX := Lib.hid hx
      have HRD := Lib.hid hrd
      have HCP := Lib.hid hcp
      clear hx hrd hcp
      have hxn := HAT.out.fits x (List.mem_of_getElem? HX.out)
      have hbit := keep_bit keep k HK.out
      by_cases hb0 : keep / 2 ^ (k % 64) % 2 = 0
      · rw [hb0] at hbit
        have HB := Lib.hid hb0
        clear hb0
        go_wp2
        refine ⟨⟨k + 1, by omega, by go_num, ?_, HGR.out⟩, by simp [intOf]; omega⟩
        rw [crashN, foldN_succ HX.out, if_pos HB.out]
        exact HROW.out
      · rw [show keep / 2 ^ (k % 64) % 2 = 1 by omega] at hbit
        have HB := Lib.hid hb0
        clear hb0
        have hq1 : ∀ q' : Dc.Past [] wr.drew, q'.val.cell? ⟨b, 1, none⟩ = some (.slice (some ⟨q, 0, none⟩) m c) := fun q' => (q'.ok.cell (World.block_lt_of_cell? wr _ hc1) (by simp)).trans hc1
        have hc0 := cell_at ((HGR.out.block b (lt_of_block HAT.out.box) (fun e => HAT.out.bg (by cases e; rfl))).trans HAT.out.box) 0 (.slice (some ⟨g, 0, none⟩) (n * 256) (n * 256)) rfl
        have hq0 : ∀ q' : Dc.Past [] wr.drew, q'.val.cell? ⟨b, 0, none⟩ = some (.slice (some ⟨g, 0, none⟩) (n * 256) (n * 256)) := fun q' => (q'.ok.cell (World.block_lt_of_cell? wr _ hc0) (by simp)).trans hc0
        have HS := Lib.hid HAT.out.len
        by_cases ht : (k : Int) = torn
        · obtain ⟨z, hz⟩ : ∃ z : Nat, min (max part 0) 256 = (z : Int) := ⟨(min (max part 0) 256).toNat, by omega⟩
          have HSZ := Lib.hid (show sizeOfW torn part k = z by unfold sizeOfW; rw [if_pos ht]; omega)
          have hz2 : z ≤ 256 := by omega
          have hbt : ((k : Int) == torn) = true := by simp [ht]
          clear ht
          go_wp2
          refine Dc.wp_region_segs 11 [] [([0, 1, 2, 3, 4, 5, 6, 7, 8, 9, 10], 11)] [] (by kernel_rfl) (by kernel_rfl) (by kernel_rfl) (by kernel_rfl) (by kernel_rfl) (by intro c a d v w h; cases d <;> exact h) ?_
          refine Dc.wpSegs_more ?_
          simp only [Dc.pick, List.getElem?_cons_zero, List.getElem?_cons_succ]
          repeat (first | go_big_quiet_step (fail) | quiet_step (fail))
          refine wpQuiet_nil ?_
          refine Dc.wpOp_heavy rfl (by rfl) (fun K hK => ?_)
          go_simp
          refine (apply_any (w := wr.drew) (n := n) z HCP.out HRD.out HROW.out (crashN_len HS.out HAT.out.fits k) hsm hxn (by omega)).mono ?_
          rintro e w1 ⟨rfl, hrow1, hgr1⟩
          have HR1 := Lib.hid hrow1
          have HG1 := Lib.hid hgr1
          clear hrow1 hgr1
          refine hK _ _ (fun h => absurd rfl h) ?_
          clear hK K
          refine Dc.wpSegs_last ?_
          simp only [Dc.pick]
          refine wpQuiet_nil ?_
          go_wp2
          refine ⟨⟨k + 1, by omega, by go_num, ?_, grown_trans HGR.out ⟨HG1.out.os, HG1.out.tape, HG1.out.output, HG1.out.size, HG1.out.block⟩⟩, by simp [intOf]; omega⟩
          have := HR1.out
          rw [crashN, foldN_succ HX.out, if_neg HB.out, HSZ.out]
          exact this
        · have HSZ := Lib.hid (show sizeOfW torn part k = 256 by unfold sizeOfW; rw [if_neg ht])
          go_wp2
          refine Dc.wp_region_segs 11 [] [([0, 1, 2, 3, 4, 5, 6, 7, 8, 9, 10], 11)] [] (by kernel_rfl) (by kernel_rfl) (by kernel_rfl) (by kernel_rfl) (by kernel_rfl) (by intro c a d v w h; cases d <;> exact h) ?_
          refine Dc.wpSegs_more ?_
          simp only [Dc.pick, List.getElem?_cons_zero, List.getElem?_cons_succ]
          repeat (first | go_big_quiet_step (fail) | quiet_step (fail))
          refine wpQuiet_nil ?_
          refine Dc.wpOp_heavy rfl (by rfl) (fun K hK => ?_)
          go_simp
          refine (apply_any (w := wr.drew) (n := n) 256 HCP.out HRD.out HROW.out (crashN_len HS.out HAT.out.fits k) hsm hxn (by omega)).mono ?_
          rintro e w1 ⟨rfl, hrow1, hgr1⟩
          have HR1 := Lib.hid hrow1
          have HG1 := Lib.hid hgr1
          clear hrow1 hgr1
          refine hK _ _ (fun h => absurd rfl h) ?_
          clear hK K
          refine Dc.wpSegs_last ?_
          simp only [Dc.pick]
          refine wpQuiet_nil ?_
          go_wp2
          refine ⟨⟨k + 1, by omega, by go_num, ?_, grown_trans HGR.out ⟨HG1.out.os, HG1.out.tape, HG1.out.output, HG1.out.size, HG1.out.block⟩⟩, by simp [intOf]; omega⟩
          have := HR1.out
          rw [crashN, foldN_succ HX.out, if_neg HB.out, HSZ.out]
          exact this
    · have he : k = m := by omega
      subst he
      have hbox := (HGR.out.block b (lt_of_block HAT.out.box) (fun e => HAT.out.bg (by cases e; rfl))).trans HAT.out.box
      rw [← Hm.out] at hbox
      have h1 := cell_at hbox 1 (.slice A k c) rfl
      have hf1 := free_at hbox 1
      have HB := Lib.hid hbox
      clear hbox
      go_wp2
      go_end0
      have hbs := blk_set HB.out 1 (.slice none 0 0)
      refine ⟨rfl, ⟨g, .slice none 0 0, ⟨hbs, ?_, OwnL.nil_ _ _ _, crashN_len HAT.out.len HAT.out.fits _, HAT.out.small, by simp, HAT.out.bg, by simp [Value.ownBlock], by simp [Value.ownBlock]⟩, ?_⟩, ?_⟩
      · rw [Below.heap_setCell _ _ _ _ (Ne.symm HAT.out.bg)]
        exact HROW.out
      · rintro i (rfl | rfl | h)
        · exact ⟨(HF.out _ (.inl rfl)).1, lt_of_block hbs⟩
        · refine ⟨(HF.out _ (.inr (.inl rfl))).1, ?_⟩
          have := (HF.out _ (.inr (.inl rfl))).2
          have := HGR.out.size
          simp [World.setCell]
          omega
        · simp [Value.ownBlock] at h
      · exact (Keep.of_only HGR.out (HF.out g (.inr (.inl rfl))).1).set (.inl (HF.out b (.inl rfl)).1) _

end Go.Proofs.Ythjgcbpanfiacaa
