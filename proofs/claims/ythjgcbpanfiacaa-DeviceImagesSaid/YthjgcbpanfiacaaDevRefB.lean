/-
  The contracts of the reference's Sync and Crash; conditions stand at each.
-/
import Derived.Test.YthjgcbpanfiacaaDevRefA
namespace Go.Proofs.Ythjgcbpanfiacaa
open Go.RowKit Go.Sort
set_option linter.unusedVariables false
set_option linter.unusedSimpArgs false

/-- A page of the reference laid over. -/
theorem RefAt.lay {w : World} {b q n c : Nat} {vW : Value} {s : List UInt8} {pd : List WR} (h : RefAt w b (.slice (some ⟨q, 0, none⟩) n c) vW (pagesS s n) pd) {x : WR} {size : Nat} (hs : s.length = n * 256) (hx : x.page < n) {t : ByteArray}
    (ht : t = str (splice (pageOf s x.page) 0 (x.bytes.take size))) : RefAt (w.setCell ⟨q, x.page, none⟩ (.string t)) b (.slice (some ⟨q, 0, none⟩) n c) vW (pagesS (app x size s) n) pd := by
  subst ht
  refine ⟨?_, ?_, ?_, h.bP, h.bW, h.pW⟩
  · rw [Below.heap_setCell _ _ _ _ (fun e => h.bP (by rw [e]; rfl))]
    exact h.box
  · have := h.ownP.set x.page (str (splice (pageOf s x.page) 0 (x.bytes.take size)))
    rwa [pagesS_app hs hx] at this
  · exact h.ownW.keep fun i hi _ => Below.heap_setCell _ _ _ _ (fun e => h.pW q rfl (hi.trans (congrArg some e)))
theorem RefAt.drew {w : World} {b : Nat} {vP vW : Value} {P : List ByteArray} {pd : List WR} (h : RefAt w b vP vW P pd) : RefAt w.drew b vP vW P pd := h.keep fun _ _ => rfl
/-- d.W = nil. -/
theorem RefAt.empty {w : World} {b : Nat} {vP vW : Value} {P : List ByteArray} {pd : List WR} (h : RefAt w b vP vW P pd) : RefAt (w.setCell ⟨b, 1, none⟩ (.slice none 0 0)) b vP (.slice none 0 0) P [] :=
  ⟨blk_set h.box 1 _, OwnL.keep h.ownP fun i hi _ => Below.heap_setCell _ _ _ _ (fun e => h.bP (hi.trans (congrArg some e))), OwnL.nil_ _ _ _, h.bP, by simp [Value.ownBlock], fun i _ => by simp [Value.ownBlock]⟩

set_option maxHeartbeats 1600000 in
set_option maxRecDepth 100000 in
theorem refSync_any {w : World} {b n : Nat} {st : List UInt8} {pd : List WR} {F : Nat → Prop} (hd : Ref w b n st pd F) (hfew : pd.length ≤ 1000000) :
    Calls Try.prog 19 #[.pointer (some ⟨b, 0, none⟩)] w fun e w' => e = .returned (.tuple #[]) ∧ Ref w' b n (allN st pd pd.length) [] F ∧ Keep F w w' := by
  obtain ⟨vP, vW, A, B, c, d, hvP, hvW, hat, hF⟩ := hd.form
  have h1 := cell_at hat.box 1 vW rfl
  have HLN := Lib.hid hd.1
  have hsm := hd.1.2.1
  have HAT := Lib.hid hat
  have HF := Lib.hid hF
  have HVW := Lib.hid hvW
  subst hvW
  obtain ⟨m, hm⟩ : ∃ m, m = pd.length := ⟨_, rfl⟩
  rw [← hm] at h1 hfew HAT ⊢
  have Hm := Lib.hid hm
  have HVP := Lib.hid hvP
  clear hat hF hd hm hvP
  go_enter Try.func19, Try.ntmps19
  go_wp2
  go_loopw [8] (fun i wr => ∃ k : Nat, k ≤ m ∧ i = .int .i64 k ∧ Hid (RefAt wr b vP (.slice B m d) (pagesS (allN st pd k) n) pd) ∧ Hid (Keep (fun i => vP.ownBlock = some i) w wr)) (fun i _ => m - (intOf i).toNat)
  case atStart => exact ⟨0, Nat.zero_le _, rfl, HAT, Lib.hid (Keep.refl _ _)⟩
  case round =>
    obtain ⟨k, hk, rfl, HR, HK⟩ := hrel
    by_cases hlt : k < m
    · obtain ⟨q2, c2, x, hv, hx, hqb, hql, hc1, hc2⟩ := HR.out.wr (i := k) (by rw [← Hm.out]; exact hlt)
      rw [← Hm.out] at hv
      cases hv
      have hxn := HLN.out.2.2 x (List.mem_of_getElem? hx)
      obtain ⟨q, cq, e1, hq, hcell, hfr⟩ := HR.out.ownP.cell (pagesS_at (st := allN st pd k) hxn)
      rw [pagesS_len] at e1
      have hb0 := cell_at HR.out.box 0 vP rfl
      have hb1 := cell_at HR.out.box 1 _ rfl
      have hbl := lt_of_block HR.out.box
      have HS := Lib.hid (show allN st pd (k + 1) = app x 256 (allN st pd k) from by unfold allN; rw [foldN_succ hx])
      have HLAY := Lib.hid (show ∀ t, t = str x.bytes → RefAt (wr.drew.setCell ⟨q, x.page, none⟩ (.string t)) b (.slice (some ⟨q, 0, none⟩) n cq) (.slice (some ⟨q2, 0, none⟩) m d) (pagesS (app x 256 (allN st pd k)) n) pd from fun t ht => by
        have h := HR.out.drew
        rw [e1] at h
        refine h.lay (allN_len HLN.out.1 HLN.out.2.2 k) hxn ?_
        rw [ht, List.take_of_length_le (by rw [x.len]; omega), splice_full]
        rw [page_len (allN_len HLN.out.1 HLN.out.2.2 k) hxn, x.len])
      have HE1 := Lib.hid e1
      rw [e1] at hb0
      have a0 : ∀ q' : Dc.Past [] wr.drew, q'.val.cell? ⟨b, 0, none⟩ = some (.slice (some ⟨q, 0, none⟩) n cq) := fun q' => (q'.ok.cell hbl (by simp)).trans hb0
      have a1 : ∀ q' : Dc.Past [] wr.drew, q'.val.cell? ⟨b, 1, none⟩ = some (.slice (some ⟨q2, 0, none⟩) m d) := fun q' => (q'.ok.cell hbl (by simp)).trans hb1
      have a2 : ∀ q' : Dc.Past [] wr.drew, q'.val.cell? ⟨q2, k * 2, none⟩ = some (.int .i64 (x.page : Int)) := fun q' => (q'.ok.cell hql (by simp)).trans hc1
      have a3 : ∀ q' : Dc.Past [] wr.drew, q'.val.cell? ⟨q2, k * 2 + 1, none⟩ = some (.string (str x.bytes)) := fun q' => (q'.ok.cell hql (by simp)).trans hc2
      have hcd : wr.drew.cell? ⟨q, x.page, none⟩ = some (.string (str (pageOf (allN st pd k) x.page))) := hcell
      have hfd : wr.drew.frozen? ⟨q, x.page, none⟩ = false := hfr
      obtain ⟨p, hp⟩ : ∃ p, p = x.page := ⟨_, rfl⟩
      rw [← hp] at a2 hcd hfd hxn
      have Hp := Lib.hid hp
      clear hx hc1 hc2 hcell hfr hb0 hb1 e1 hp hbl hqb
      go_wp2
      refine Dc.wp_region_segs 21 [] [([0, 1, 2, 3, 4, 5, 6, 7, 8, 9, 10, 11, 12, 13, 14, 15, 16, 17, 18, 19, 20], 21)] [] (by kernel_rfl) (by kernel_rfl) (by kernel_rfl) (by kernel_rfl) (by kernel_rfl) (by intro c a d v w h; cases d <;> exact h) ?_
      refine Dc.wpSegs_more ?_
      simp only [Dc.pick, List.getElem?_cons_zero, List.getElem?_cons_succ]
      repeat (first | go_big_quiet_step (fail) | quiet_step (fail))
      refine wpQuiet_nil ?_
      refine Dc.wpOp_heavy rfl (by rfl) (fun K hK => ?_)
      go_simp
      refine hK _ _ (fun h => absurd rfl h) ?_
      clear hK K
      refine Dc.wpSegs_last ?_
      simp only [Dc.pick]
      refine wpQuiet_nil ?_
      go_wp2
      refine ⟨⟨k + 1, by omega, by go_num, Lib.hid ?_, Lib.hid ?_⟩, by simp [intOf]; omega⟩
      · rw [HS.out, HE1.out, Hp.out]
        exact HLAY.out _ rfl
      · exact (HK.out.trans (.of_below (Below.refl _ _).drew)).set (.inl (by rw [HE1.out]; rfl)) _
    · obtain rfl : k = m := by omega
      have hb1 := cell_at HR.out.box 1 _ rfl
      have hf1 := free_at HR.out.box 1
      go_wp2
      go_end0
      refine ⟨rfl, ⟨⟨allN_len HLN.out.1 HLN.out.2.2 _, HLN.out.2.1, by simp⟩, vP, .slice none 0 0, HR.out.empty, ?_⟩, ?_⟩
      · have hz : (wr.setCell ⟨b, 1, none⟩ (.slice none 0 0)).heap.size = wr.heap.size := by simp [World.setCell]
        rintro i (rfl | h | h)
        · exact ⟨(HF.out _ (.inl rfl)).1, by have := (HF.out _ (.inl rfl)).2; have := HK.out.size; omega⟩
        · exact ⟨(HF.out i (.inr (.inl h))).1, by have := (HF.out i (.inr (.inl h))).2; have := HK.out.size; omega⟩
        · simp [Value.ownBlock] at h
      · exact (HK.out.mono fun i _ hi => (HF.out i (.inr (.inl hi))).1).set (.inl (HF.out b (.inl rfl)).1) _

end Go.Proofs.Ythjgcbpanfiacaa
