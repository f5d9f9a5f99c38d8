/-
  The contract of the reference's New; a page put behind the reference's pages; conditions stand at each.
-/
import Derived.Test.YthjgcbpanfiacaaDevRefA
namespace Go.Proofs.Ythjgcbpanfiacaa
open Go.RowKit Go.Sort
set_option linter.unusedVariables false
set_option linter.unusedSimpArgs false

/-- A page put behind the others. -/
theorem RefAt.push {W w' : World} {b : Nat} {vP vW v' : Value} {P : List ByteArray} {pd : List WR} {F : Nat → Prop} {s : ByteArray} (hat : RefAt W b vP vW P pd) (hin : RefIn W b vP vW F) (hown : OwnS w' 0 v' (P ++ [s]))
    (hg : (W.alloc (.cells #[.string s] 9)).grownBy w' vP.ownBlock) (hblk : v'.ownBlock = vP.ownBlock ∨ v'.ownBlock = some (W.heap.size + 1)) (hnew : ∀ i, W.heap.size ≤ i → F i) :
    RefAt (w'.setCell ⟨b, 0, none⟩ v') b v' vW (P ++ [s]) pd ∧ RefIn (w'.setCell ⟨b, 0, none⟩ v') b v' vW F ∧ Keep F W (w'.setCell ⟨b, 0, none⟩ v') := by
  have hbA : Below W.heap.size W (W.alloc (.cells #[.string s] 9)) := (Below.refl _ _).alloc (Nat.le_refl _) _
  have hk : ∀ i, i < W.heap.size → vP.ownBlock ≠ some i → w'.heap[i]? = W.heap[i]? := fun i hi hne => by
    rw [hg.block i (Nat.lt_of_lt_of_le hi hbA.size) (fun e => hne e.symm), hbA.block i hi]
  have hs : W.heap.size + 1 ≤ w'.heap.size := by have := hg.size; simp at this; exact this
  have hbl := (hin b (.inl rfl)).2
  have hbox := (hk b hbl hat.bP).trans hat.box
  have hbs := blk_set hbox 0 v'
  have hne : ∀ i, v'.ownBlock = some i → vP.ownBlock = some i ∨ W.heap.size < i := fun i hi => by
    rcases hblk with h | h
    · exact .inl (by rw [← h]; exact hi)
    · rw [h] at hi
      cases hi
      exact .inr (by omega)
  have hnb : v'.ownBlock ≠ some b := fun e => by
    rcases hne b e with h | h
    · exact hat.bP h
    · omega
  have hz : (w'.setCell ⟨b, 0, none⟩ v').heap.size = w'.heap.size := by simp [World.setCell]
  refine ⟨⟨hbs, ?_, ?_, hnb, hat.bW, ?_⟩, ?_, ?_⟩
  · exact OwnL.keep hown fun i hi _ => Below.heap_setCell _ _ _ _ (fun e => hnb (hi.trans (congrArg some e)))
  · exact hat.ownW.keep fun i hi hl => by
      rw [Below.heap_setCell _ _ _ _ (fun e => hat.bW (hi.trans (congrArg some e)))]
      exact hk i hl (fun e => hat.pW i e hi)
  · intro i hi h
    rcases hne i hi with h2 | h2
    · exact hat.pW i h2 h
    · have := (hin i (.inr (.inr h))).2
      omega
  · rintro i (rfl | h | h)
    · exact ⟨(hin _ (.inl rfl)).1, by omega⟩
    · refine ⟨?_, by have := OwnL.lt hown i h; omega⟩
      rcases hne i h with h2 | h2
      · exact (hin i (.inr (.inl h2))).1
      · exact hnew i (by omega)
    · exact ⟨(hin i (.inr (.inr h))).1, by have := (hin i (.inr (.inr h))).2; omega⟩
  · have hkp : Keep F W w' := ⟨hg.os, hg.tape, hg.output, by omega, fun i hi hn => hk i hi (fun e => hn (hin i (.inr (.inl e))).1)⟩
    exact hkp.set (.inl (hin b (.inl rfl)).1) _
theorem RefIn.below {w w' : World} {b : Nat} {vP vW : Value} {F : Nat → Prop} (h : RefIn w b vP vW F) (hb : Below w.heap.size w w') : RefIn w' b vP vW F := fun i hi => ⟨(h i hi).1, Nat.lt_of_lt_of_le (h i hi).2 hb.size⟩
theorem RefAt.below {w w' : World} {b : Nat} {vP vW : Value} {P : List ByteArray} {pd : List WR} {F : Nat → Prop} (h : RefAt w b vP vW P pd) (hin : RefIn w b vP vW F) (hb : Below w.heap.size w w') : RefAt w' b vP vW P pd := h.keep fun i hi => hb.block i (hin i hi).2
/-- append of one string, onto the pages. -/
theorem RefAt.append {W : World} {b : Nat} {vP vW : Value} {P : List ByteArray} {pd : List WR} (hat : RefAt W b vP vW P pd) (s : ByteArray) (hf : P.length ≤ 1000000) :
    ∃ v' w', (Builtin.append_ #[42, 42] 42 #[vP, .slice (some ⟨W.heap.size, 0, none⟩) 1 1]).run Try.prog (W.alloc (.cells #[.string s] 9)) = .ok v' w' ∧ OwnS w' 0 v' (P ++ [s]) ∧ (W.alloc (.cells #[.string s] 9)).grownBy w' vP.ownBlock ∧ (v'.ownBlock = vP.ownBlock ∨ v'.ownBlock = some (W.heap.size + 1)) :=
  run_append_blk strC_enc 42 9 42 (.string ByteArray.empty) 16 Try.underlying42 strinfo rfl (by omega) (by omega) hat.ownP s hf

theorem refAt_new (w : World) : RefAt (w.alloc (.cells #[.slice none 0 0, .slice none 0 0] 45)) w.heap.size (.slice none 0 0) (.slice none 0 0) [] [] :=
  ⟨heap_alloc_new w _, OwnL.nil_ _ _ _, OwnL.nil_ _ _ _, by simp [Value.ownBlock], by simp [Value.ownBlock], fun i hi => by simp [Value.ownBlock] at hi⟩
theorem refIn_new (w : World) : RefIn (w.alloc (.cells #[.slice none 0 0, .slice none 0 0] 45)) w.heap.size (.slice none 0 0) (.slice none 0 0) (fun i => w.heap.size ≤ i) := by
  rintro i (rfl | h | h)
  · exact ⟨Nat.le_refl _, by simp⟩
  · simp [Value.ownBlock] at h
  · simp [Value.ownBlock] at h

/-- A page of zeros. -/
def zpg : ByteArray := str (List.replicate 256 0)
theorem pagesS_zero (n : Nat) : pagesS (List.replicate (n * 256) 0) n = List.replicate n zpg := by
  apply List.ext_getElem?
  intro i
  by_cases hi : i < n
  · rw [pagesS_at hi, List.getElem?_replicate, if_pos hi]
    unfold pageOf zpg
    rw [List.drop_replicate, List.take_replicate]
    have : (i + 1) * 256 ≤ n * 256 := Nat.mul_le_mul_right _ hi
    rw [show min 256 (n * 256 - i * 256) = 256 by omega]
  · rw [List.getElem?_eq_none (by rw [pagesS_len]; omega), List.getElem?_eq_none (by rw [List.length_replicate]; omega)]

set_option maxHeartbeats 1600000 in
set_option maxRecDepth 100000 in
theorem refNew_any (x : Int) (w : World) : Calls Try.prog 12 #[.int .i64 x] w fun e w' =>
    ∃ b, e = .returned (.pointer (some ⟨b, 0, none⟩)) ∧ Ref w' b (pagesN x) (List.replicate (pagesN x * 256) 0) [] (fun i => w.heap.size ≤ i) ∧ Below w.heap.size w w' := by
  obtain ⟨n, hn⟩ : ∃ n, n = pagesN x := ⟨_, rfl⟩
  have hnx : ∀ k : Nat, k ≤ n → ((k : Int) < x ∧ (k : Int) < 512 ↔ k < n) := by
    intro k hk
    rw [hn] at hk ⊢
    unfold pagesN at hk ⊢
    omega
  have hn5 : n ≤ 512 := by rw [hn]; exact pagesN_le x
  rw [← hn]
  clear hn
  have hmake : ∀ w : World, (Instr.makeSlice 35 (.int .i64 256) (.int .i64 256)).run Try.prog w = .ok (.slice (some ⟨w.heap.size, 0, none⟩) 256 256) (w.alloc (.cells (bcells (List.replicate 256 0)).toArray 5)) := fun w => by
    have := run_make_bytes 256 256 (Nat.le_refl _) (by omega) w
    rwa [show ((256 : Nat) : Int) = 256 from rfl, made_list, ← bcells_zero] at this
  have hzl : (List.replicate 256 (0 : UInt8)).length = 256 := List.length_replicate
  have hzs : zpg = ⟨(List.replicate 256 (0 : UInt8)).toArray⟩ := rfl
  have HPZ := Lib.hid (pagesS_zero n)
  generalize List.replicate 256 (0 : UInt8) = zs at *
  generalize zpg = zp at *
  have HZL := Lib.hid hzl
  have HZS := Lib.hid hzs
  have HNX := Lib.hid hnx
  have HMK := Lib.hid hmake
  clear hzl hzs hnx hmake
  go_enter Try.func12, Try.ntmps12
  go_wp2
  have HA0 := Lib.hid (refAt_new w)
  have HI0 := Lib.hid (refIn_new w)
  have HB0 := Lib.hid (show Below w.heap.size w (w.alloc (.cells #[.slice none 0 0, .slice none 0 0] 45)) from (Below.refl _ _).alloc (Nat.le_refl _) _)
  obtain ⟨b, hb⟩ : ∃ b, b = w.heap.size := ⟨_, rfl⟩
  rw [← hb]
  have HI1 : Hid (RefIn (w.alloc (.cells #[.slice none 0 0, .slice none 0 0] 45)) b (.slice none 0 0) (.slice none 0 0) (fun i => w.heap.size ≤ i)) := Lib.hid (by have := HI0.out; rw [hb]; exact this)
  rw [← hb] at HA0
  clear HI0
  generalize w.alloc (.cells #[.slice none 0 0, .slice none 0 0] 45) = w0 at *
  clear hb
  go_loopw [4] (fun i wr => ∃ k : Nat, k ≤ n ∧ i = .int .i64 k ∧ Hid (∃ vP, RefAt wr b vP (.slice none 0 0) (List.replicate k zp) [] ∧ RefIn wr b vP (.slice none 0 0) (fun i => w.heap.size ≤ i)) ∧ Hid (Below w.heap.size w wr)) (fun i _ => n - (intOf i).toNat)
  case atStart => exact ⟨0, Nat.zero_le _, rfl, Lib.hid ⟨_, HA0.out, HI1.out⟩, HB0⟩
  case round =>
    obtain ⟨k, hk, rfl, HR, HB⟩ := hrel
    clear HA0 HI1 HB0
    by_cases hlt : k < n
    · obtain ⟨hl1, hl2⟩ := (HNX.out k hk).2 hlt
      obtain ⟨vP, hat, hin⟩ := HR.out
      obtain ⟨Ap, cp, hvp, _⟩ := hat.ownP.form
      rw [List.length_replicate] at hvp
      subst hvp
      obtain ⟨W, hW⟩ : ∃ W, W = wr.drew := ⟨_, rfl⟩
      have hbW : Below wr.heap.size wr W := by rw [hW]; exact (Below.refl _ _).drew
      have hatW := hat.below hin hbW
      have hinW := hin.below hbW
      have hm := HMK.out W
      obtain ⟨W1, hW1⟩ : ∃ W1, W1 = W.alloc (.cells (bcells zs).toArray 5) := ⟨_, rfl⟩
      rw [← hW1] at hm
      have hbW1 : Below W.heap.size W W1 := by rw [hW1]; exact (Below.refl _ _).alloc (Nat.le_refl _) _
      have hrow1 : W1.heap[W.heap.size]? = some (.cells (bcells zs).toArray 5 (0, 0)) := by rw [hW1]; exact heap_alloc_new W _
      have hat1 := hatW.below hinW hbW1
      have hin1 := hinW.below hbW1
      have hvlt : ∀ i, (Value.slice Ap k cp).ownBlock = some i → i < W.heap.size := fun i hi => (hinW i (.inr (.inl hi))).2
      obtain ⟨v', w4, hrun, hown4, hg4, hblk4⟩ := hat1.append zp (by rw [List.length_replicate]; omega)
      obtain ⟨hatE, hinE, hkE⟩ := hat1.push hin1 hown4 hg4 hblk4 (fun i hi => Nat.le_trans HB.out.size (Nat.le_trans hbW.size (Nat.le_trans hbW1.size hi)))
      have hbE : Below w.heap.size w (w4.setCell ⟨b, 0, none⟩ v') := Keep.base (bthen HB.out (bthen hbW hbW1)) (bthen HB.out (bthen hbW hbW1)).size hkE
      obtain ⟨A4, n4, c4, hv4⟩ : ∃ A n c, v' = Value.slice A n c := by
        obtain ⟨A', c', h, _⟩ := OwnL.form hown4
        exact ⟨_, _, _, h⟩
      have hbl := (hinW b (.inl rfl)).2
      have hbA : Below W1.heap.size W1 (W1.alloc (.cells #[.string zp] 9)) := (Below.refl _ _).alloc (Nat.le_refl _) _
      have hbox4 : w4.heap[b]? = some (.cells #[.slice Ap k cp, .slice none 0 0] 45 (0, 0)) := by
        rw [hg4.block b (Nat.lt_of_lt_of_le hbl (Nat.le_trans hbW1.size hbA.size)) (fun e => hat1.bP e.symm), hbA.block b (Nat.lt_of_lt_of_le hbl hbW1.size)]
        exact hat1.box
      have hc4 := cell_at hbox4 0 (.slice Ap k cp) rfl
      have hf4 := free_at hbox4 0
      have hqb : ∀ q' : Dc.Past (Value.slice Ap k cp).ownBlock.toList W, q'.val.cell? ⟨b, 0, none⟩ = some (.slice Ap k cp) := fun q' => (q'.ok.cell hbl (fun h => hatW.bP (by simpa using h))).trans (cell_at hatW.box 0 _ rfl)
      have hqc : ∀ q' : Dc.Past (Value.slice Ap k cp).ownBlock.toList W1, (convert 35 9 (.slice (some ⟨W.heap.size, 0, none⟩) 256 256)).run Try.prog q'.val = .ok (.string zp) q'.val := fun q' => by
        rw [HZS.out]
        exact conv_rd (rd_whole ((q'.ok.2 _ (lt_of_block hrow1) (fun h => by have := hvlt _ (by simpa using h); omega)).trans hrow1)) HZL.out
      have HRUN := Lib.hid hrun
      have HAE := Lib.hid hatE
      have HIE := Lib.hid hinE
      have HBE := Lib.hid hbE
      have HG4 := Lib.hid hg4
      have HV4 := Lib.hid hv4
      have HW := Lib.hid hW
      have HM := Lib.hid hm
      have HBA := Lib.hid hbA
      have HB1 := Lib.hid hbW1
      clear hW hbW hatW hinW hm hW1 hbW1 hrow1 hat1 hin1 hvlt hrun hown4 hg4 hblk4 hatE hinE hkE hbE hv4 hbA hbox4 hat hin
      go_wp2
      refine Dc.wp_region_segs 11 (Value.slice Ap k cp).ownBlock.toList [([0, 1, 2, 3, 4], 5), ([6], 7), ([], 8), ([9, 10], 11)] [] (by kernel_rfl) (by kernel_rfl) (by kernel_rfl) (by kernel_rfl) (by kernel_rfl) (by intro c a d v w h; cases d <;> exact h) ?_
      rw [← HW.out]
      refine Dc.wpSegs_more ?_
      simp only [Dc.pick, List.getElem?_cons_zero, List.getElem?_cons_succ]
      repeat (first | go_big_quiet_step (fail) | quiet_step (fail))
      refine wpQuiet_nil ?_
      refine Dc.wpOp_heavy rfl (by rfl) (fun K hK => ?_)
      refine oper_run (.slice (some ⟨W.heap.size, 0, none⟩) 256 256) (w' := W1) ?_ (hK _ _ (fun _ => Dc.But.of_below HB1.out) ?_)
      · have := HM.out
        unfold execOp
        simp only [Act.eval, Sem.run_bind, Sem.run_pure, Result.andThen_ok, this]
      simp only [Act.put]
      clear hK K hqb
      refine Dc.wpSegs_more ?_
      simp only [Dc.pick, List.getElem?_cons_zero, List.getElem?_cons_succ]
      repeat (first | go_big_quiet_step (fail) | quiet_step (fail))
      refine wpQuiet_nil ?_
      clear hqc
      refine Dc.wpOp_heavy rfl (by rfl) (fun K hK => ?_)
      go_simp
      refine hK _ _ (fun _ => Dc.But.of_below HBA.out) ?_
      clear hK K
      refine Dc.wpSegs_more ?_
      simp only [Dc.pick]
      refine wpQuiet_nil ?_
      refine Dc.wpOp_heavy rfl (by rfl) (fun K hK => ?_)
      refine oper_append_ran (.tmp 20) (.tmp 23) 42 rfl _ _ _ _ rfl rfl HRUN.out ?_
      refine hK _ _ (fun _ => but_of_grown HG4.out) ?_
      clear hK K
      refine Dc.wpSegs_more ?_
      simp only [Dc.pick, List.getElem?_cons_zero, List.getElem?_cons_succ]
      repeat (first | go_big_quiet_step (fail) | quiet_step (fail))
      refine wpQuiet_nil ?_
      refine Dc.wpOp_heavy rfl (by rfl) (fun K hK => ?_)
      have hv4 := HV4.out
      subst hv4
      go_simp
      refine hK _ _ (fun h => absurd rfl h) ?_
      clear hK K
      refine Dc.wpSegs_last ?_
      simp only [Dc.pick]
      refine wpQuiet_nil ?_
      go_wp2
      refine ⟨⟨k + 1, by omega, by go_num, Lib.hid ⟨_, ?_, HIE.out⟩, HBE⟩, by simp [intOf]; omega⟩
      have := HAE.out
      rwa [← List.replicate_succ'] at this
    · obtain rfl : k = n := by omega
      have HN := Lib.hid (HNX.out k (Nat.le_refl _))
      obtain ⟨vP, hat, hin⟩ := HR.out
      have HE := Lib.hid (show Ref wr b k (List.replicate (k * 256) 0) [] (fun i => w.heap.size ≤ i) from ⟨⟨List.length_replicate, hn5, by simp⟩, vP, .slice none 0 0, by rw [HPZ.out]; exact hat, hin⟩)
      clear hat hin HR
      by_cases h1 : (k : Int) < x
      · have h2 : ¬ (k : Int) < 512 := fun h => hlt (HN.out.1 ⟨h1, h⟩)
        go_wp2
        go_ret
        exact ⟨b, rfl, HE.out, HB.out⟩
      · go_wp2
        go_ret
        exact ⟨b, rfl, HE.out, HB.out⟩

end Go.Proofs.Ythjgcbpanfiacaa
