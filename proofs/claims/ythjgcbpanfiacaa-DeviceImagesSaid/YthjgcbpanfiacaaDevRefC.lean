/-
  The contract of the reference's Crash; conditions stand at each.
-/
import Derived.Test.YthjgcbpanfiacaaDevRefB
namespace Go.Proofs.Ythjgcbpanfiacaa
open Go.RowKit Go.Sort
set_option linter.unusedVariables false
set_option linter.unusedSimpArgs false

theorem str_take (a : List UInt8) (k : Nat) : (str a).extract 0 k = str (a.take k) := by
  apply ByteArray.ext
  rw [ByteArray.data_extract]
  simp [str]
theorem str_drop (a : List UInt8) (k : Nat) : (str a).extract k (str a).size = str (a.drop k) := by
  apply ByteArray.ext
  rw [ByteArray.data_extract, str_size]
  simp [str, List.extract_eq_take_drop]
  rw [List.take_of_length_le]
  simp
/-- The beginning of a write, and the rest of the page. -/
theorem str_lay {x : WR} {pg : List UInt8} {z : Nat} (hz : z ≤ 256) (hp : pg.length = 256) : (str x.bytes).extract 0 z ++ (str pg).extract z 256 = str (splice pg 0 (x.bytes.take z)) := by
  rw [show (256 : Nat) = (str pg).size by rw [str_size, hp], str_take, str_drop, str_add]
  unfold splice
  rw [List.take_zero, List.nil_append, List.length_take, x.len, Nat.min_eq_left hz, Nat.zero_add]

set_option maxHeartbeats 3200000 in
set_option maxRecDepth 100000 in
theorem refCrash_any {w : World} {b n : Nat} {st : List UInt8} {pd : List WR} {F : Nat → Prop} (keep : Nat) (torn part : Int) (hd : Ref w b n st pd F) (hfew : pd.length ≤ 1000000) (hkeep : keep < 18446744073709551616) :
    Calls Try.prog 21 #[.pointer (some ⟨b, 0, none⟩), .int .u64 (keep : Int), .int .i64 torn, .int .i64 part] w fun e w' => e = .returned (.tuple #[]) ∧ Ref w' b n (crashN keep torn part st pd pd.length) [] F ∧ Keep F w w' := by
  obtain ⟨vP, vW, A, B, c, d, hvP, hvW, hat, hF⟩ := hd.form
  have h1 := cell_at hat.box 1 vW rfl
  have HLN := Lib.hid hd.1
  have hsm := hd.1.2.1
  have HAT := Lib.hid hat
  have HF := Lib.hid hF
  have HVW := Lib.hid hvW
  subst hvW
  obtain ⟨m, hm⟩ : ∃ m, m = pd.length := ⟨_, rfl⟩
  rw [← hm] at h1 hfew HAT ⊢
  have Hm := Lib.hid hm
  have HVP := Lib.hid hvP
  have HKP := Lib.hid hkeep
  clear hat hF hd hm hvP hkeep
  go_enter Try.func21, Try.ntmps21
  go_wp2
  go_loopw [16] (fun i wr => ∃ k : Nat, k ≤ m ∧ i = .int .i64 k ∧ Hid (RefAt wr b vP (.slice B m d) (pagesS (crashN keep torn part st pd k) n) pd) ∧ Hid (Keep (fun i => vP.ownBlock = some i) w wr)) (fun i _ => m - (intOf i).toNat)
  case atStart => exact ⟨0, Nat.zero_le _, rfl, HAT, Lib.hid (Keep.refl _ _)⟩
  case round =>
    obtain ⟨k, hk, rfl, HR, HK⟩ := hrel
    by_cases hlt : k < m
    · obtain ⟨q2, c2, x, hv, hx, hqb, hql, hc1, hc2⟩ := HR.out.wr (i := k) (by rw [← Hm.out]; exact hlt)
      rw [← Hm.out] at hv
      cases hv
      have hxn := HLN.out.2.2 x (List.mem_of_getElem? hx)
      have hk64 : k % 64 < 64 := Nat.mod_lt _ (by omega)
      have hbit : ((keep : Int) / 2 ^ (k % 64)).tmod 2 = ((keep / 2 ^ (k % 64) % 2 : Nat) : Int) := by
        have e : (keep : Int) / 2 ^ (k % 64) = ((keep / 2 ^ (k % 64) : Nat) : Int) := by simp
        rw [e]
        generalize keep / 2 ^ (k % 64) = X
        rw [Int.tmod_eq_emod_of_nonneg (by omega)]
        omega
      by_cases hb0 : keep / 2 ^ (k % 64) % 2 = 0
      · rw [hb0, show ((0 : Nat) : Int) = 0 from rfl] at hbit
        have HS := Lib.hid (show crashN keep torn part st pd (k + 1) = crashN keep torn part st pd k from by unfold crashN; rw [foldN_succ hx, if_pos hb0])
        clear hb0 hx hc1 hc2
        go_wp2
        exact ⟨⟨k + 1, by omega, by go_num, by rw [HS.out]; exact HR, HK⟩, by simp [intOf]; omega⟩
      · rw [show keep / 2 ^ (k % 64) % 2 = 1 by omega, show ((1 : Nat) : Int) = 1 from rfl] at hbit
        obtain ⟨z, hz⟩ : ∃ z, z = sizeOfW torn part k := ⟨_, rfl⟩
        have hz2 : z ≤ 256 := by rw [hz]; exact sizeOfW_le _ _ _
        have HS := Lib.hid (show crashN keep torn part st pd (k + 1) = app x z (crashN keep torn part st pd k) from by rw [hz]; unfold crashN; rw [foldN_succ hx, if_neg hb0])
        have hcl := crashN_len (keep := keep) (torn := torn) (part := part) HLN.out.1 HLN.out.2.2 k
        generalize crashN keep torn part st pd k = s at *
        obtain ⟨q, cq, e1, hq, hcell, hfr⟩ := HR.out.ownP.cell (pagesS_at (st := s) hxn)
        rw [pagesS_len] at e1
        have hb0' := cell_at HR.out.box 0 vP rfl
        have hb1 := cell_at HR.out.box 1 _ rfl
        have hbl := lt_of_block HR.out.box
        obtain ⟨wa, hwa⟩ : ∃ wa, wa = wr.alloc (.cells #[.int .i64 (x.page : Int), .string (str x.bytes)] 67) := ⟨_, rfl⟩
        have hba : Below wr.heap.size wr wa := by rw [hwa]; exact (Below.refl _ _).alloc (Nat.le_refl _) _
        have hn0 : wa.cell? ⟨wr.heap.size, 0, none⟩ = some (.int .i64 (x.page : Int)) := by rw [hwa, World.cell?_alloc_mark]; rfl
        have hn1 : wa.cell? ⟨wr.heap.size, 1, none⟩ = some (.string (str x.bytes)) := by rw [hwa, World.cell?_alloc_mark]; rfl
        have HRA := Lib.hid (show RefAt wa b (.slice (some ⟨q, 0, none⟩) n cq) (.slice (some ⟨q2, 0, none⟩) m d) (pagesS s n) pd from by
          have h := HR.out
          rw [e1] at h
          exact h.keep fun i hi => hba.block i (by
            rcases hi with rfl | hi | hi
            · exact hbl
            · cases hi; exact hq
            · cases hi; exact hql))
        have HKA := Lib.hid (show Keep (fun i => vP.ownBlock = some i) w wa from HK.out.trans (.of_below hba))
        have hpl : (pageOf s x.page).length = 256 := page_len hcl hxn
        have hlay := str_lay (x := x) (z := z) hz2 hpl
        have HLAY := Lib.hid (show RefAt (wa.drew.setCell ⟨q, x.page, none⟩ (.string (str (splice (pageOf s x.page) 0 (x.bytes.take z))))) b (.slice (some ⟨q, 0, none⟩) n cq) (.slice (some ⟨q2, 0, none⟩) m d) (pagesS (app x z s) n) pd from HRA.out.drew.lay hcl hxn rfl)
        have hs1 : (str x.bytes).size = 256 := by rw [str_size, x.len]
        have hs2 : (str (pageOf s x.page)).size = 256 := by rw [str_size, hpl]
        have HE1 := Lib.hid e1
        rw [e1] at hb0'
        have hal : wr.heap.size < wa.heap.size := by rw [hwa]; simp
        have a0 : ∀ q' : Dc.Past [] wa.drew, q'.val.cell? ⟨b, 0, none⟩ = some (.slice (some ⟨q, 0, none⟩) n cq) := fun q' => (q'.ok.cell (Nat.lt_of_lt_of_le hbl hba.size) (by simp)).trans ((hba.cell (p := ⟨b, 0, none⟩) hbl).trans hb0')
        have a2 : ∀ q' : Dc.Past [] wa.drew, q'.val.cell? ⟨wr.heap.size, 0, none⟩ = some (.int .i64 (x.page : Int)) := fun q' => (q'.ok.cell hal (by simp)).trans hn0
        have a3 : ∀ q' : Dc.Past [] wa.drew, q'.val.cell? ⟨wr.heap.size, 1, none⟩ = some (.string (str x.bytes)) := fun q' => (q'.ok.cell hal (by simp)).trans hn1
        have hcd : wa.drew.cell? ⟨q, x.page, none⟩ = some (.string (str (pageOf s x.page))) := (hba.cell (p := ⟨q, x.page, none⟩) hq).trans hcell
        have a4 : ∀ q' : Dc.Past [] wa.drew, q'.val.cell? ⟨q, x.page, none⟩ = some (.string (str (pageOf s x.page))) := fun q' => (q'.ok.cell (Nat.lt_of_lt_of_le hq hba.size) (by simp)).trans hcd
        have hfd : wa.drew.frozen? ⟨q, x.page, none⟩ = false := by
          obtain ⟨_, _, e2, _, _, hf⟩ := HRA.out.ownP.cell (pagesS_at (st := s) hxn)
          rw [pagesS_len] at e2
          cases e2
          exact hf
        generalize str (splice (pageOf s x.page) 0 (x.bytes.take z)) = res at *
        generalize str (pageOf s x.page) = pg at *
        generalize str x.bytes = bs at *
        obtain ⟨p, hp⟩ : ∃ p, p = x.page := ⟨_, rfl⟩
        rw [← hp] at a2 a4 hcd hfd hxn hc1 hwa HLAY
        clear hp hx hcell hfr hb0' e1 hbl hqb hpl hcl hb0 hn0 hn1 HRA
        have HWA := Lib.hid hwa
        have HZ := Lib.hid hz
        clear hwa hz
        by_cases ht : (k : Int) = torn
        · have hzz : max 0 (min part 256) = (z : Int) := by
            have := HZ.out
            unfold sizeOfW at this
            rw [if_pos ht] at this
            omega
          have hbt : ((k : Int) == torn) = true := by simp [ht]
          clear ht
          go_wp2
          rw [← HWA.out]
          refine Dc.wp_region_segs 22 [] [([0, 1, 2, 3, 4, 5, 6, 7, 8, 9, 10, 11, 12, 13, 14, 15, 16, 17, 18, 19, 20, 21], 22)] [] (by kernel_rfl) (by kernel_rfl) (by kernel_rfl) (by kernel_rfl) (by kernel_rfl) (by intro c a d v w h; cases d <;> exact h) ?_
          refine Dc.wpSegs_more ?_
          simp only [Dc.pick, List.getElem?_cons_zero, List.getElem?_cons_succ]
          repeat (first | go_big_quiet_step (fail) | quiet_step (fail))
          refine wpQuiet_nil ?_
          refine Dc.wpOp_heavy rfl (by rfl) (fun K hK => ?_)
          go_simp
          refine hK _ _ (fun h => absurd rfl h) ?_
          clear hK K
          refine Dc.wpSegs_last ?_
          simp only [Dc.pick]
          refine wpQuiet_nil ?_
          go_wp2
          refine ⟨⟨k + 1, by omega, by go_num, Lib.hid ?_, Lib.hid ?_⟩, by simp [intOf]; omega⟩
          · rw [HS.out, HE1.out]
            exact HLAY.out
          · exact (HKA.out.trans (.of_below (Below.refl _ _).drew)).set (.inl (by rw [HE1.out]; rfl)) _
        · have hzz : (z : Int) = 256 := by
            have := HZ.out
            unfold sizeOfW at this
            rw [if_neg ht] at this
            omega
          obtain rfl : z = 256 := by omega
          have hbt : ((k : Int) == torn) = false := by simp [ht]
          have HL2 := Lib.hid (show bs.extract 0 256 = res by rw [← hlay]; simp)
          clear ht hzz hlay
          go_wp2
          rw [← HWA.out]
          refine Dc.wp_region_segs 22 [] [([0, 1, 2, 3, 4, 5, 6, 7, 8, 9, 10, 11, 12, 13, 14, 15, 16, 17, 18, 19, 20, 21], 22)] [] (by kernel_rfl) (by kernel_rfl) (by kernel_rfl) (by kernel_rfl) (by kernel_rfl) (by intro c a d v w h; cases d <;> exact h) ?_
          refine Dc.wpSegs_more ?_
          simp only [Dc.pick, List.getElem?_cons_zero, List.getElem?_cons_succ]
          repeat (first | go_big_quiet_step (fail) | quiet_step (fail))
          refine wpQuiet_nil ?_
          refine Dc.wpOp_heavy rfl (by rfl) (fun K hK => ?_)
          go_simp
          refine hK _ _ (fun h => absurd rfl h) ?_
          clear hK K
          refine Dc.wpSegs_last ?_
          simp only [Dc.pick]
          refine wpQuiet_nil ?_
          go_wp2
          refine ⟨⟨k + 1, by omega, by go_num, Lib.hid ?_, Lib.hid ?_⟩, by simp [intOf]; omega⟩
          · rw [HS.out, HE1.out]
            have := HLAY.out
            rw [← HL2.out] at this
            exact this
          · exact (HKA.out.trans (.of_below (Below.refl _ _).drew)).set (.inl (by rw [HE1.out]; rfl)) _
    · obtain rfl : k = m := by omega
      have hb1 := cell_at HR.out.box 1 _ rfl
      have hf1 := free_at HR.out.box 1
      go_wp2
      go_end0
      refine ⟨rfl, ⟨⟨crashN_len HLN.out.1 HLN.out.2.2 _, HLN.out.2.1, by simp⟩, vP, .slice none 0 0, HR.out.empty, ?_⟩, ?_⟩
      · have hz : (wr.setCell ⟨b, 1, none⟩ (.slice none 0 0)).heap.size = wr.heap.size := by simp [World.setCell]
        rintro i (rfl | h | h)
        · exact ⟨(HF.out _ (.inl rfl)).1, by have := (HF.out _ (.inl rfl)).2; have := HK.out.size; omega⟩
        · exact ⟨(HF.out i (.inr (.inl h))).1, by have := (HF.out i (.inr (.inl h))).2; have := HK.out.size; omega⟩
        · simp [Value.ownBlock] at h
      · exact (HK.out.mono fun i _ hi => (HF.out i (.inr (.inl hi))).1).set (.inl (HF.out b (.inl rfl)).1) _

end Go.Proofs.Ythjgcbpanfiacaa
