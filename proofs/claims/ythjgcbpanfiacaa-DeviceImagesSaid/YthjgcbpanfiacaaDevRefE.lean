/-
  The contract of the reference's Image; conditions stand at each.
-/
import Derived.Test.YthjgcbpanfiacaaDevRefC
import Derived.Test.YthjgcbpanfiacaaDevRefD
namespace Go.Proofs.Ythjgcbpanfiacaa
open Go.RowKit Go.Sort
set_option linter.unusedVariables false
set_option linter.unusedSimpArgs false

/-- The image of bytes: the last page filled with zeros. -/
def imgOf (l : List UInt8) : List UInt8 := l ++ List.replicate (pagesOf l.length * 256 - l.length) 0
theorem imgOf_len (l : List UInt8) : (imgOf l).length = pagesOf l.length * 256 := by
  unfold imgOf pagesOf
  rw [List.length_append, List.length_replicate]
  omega
theorem take_drop_app {α : Type} (l z : List α) (a p : Nat) (ha : a ≤ l.length) : ((l ++ z).drop a).take p = (l.drop a).take p ++ z.take (p - (l.length - a)) := by
  rw [List.drop_append_of_le_length ha, List.take_append, List.length_drop]
/-- The length of a string. -/
def szS : Value → Nat
  | .string s => s.size
  | _ => 0
/-- One page of it. -/
theorem imgOf_page {l : List UInt8} {k j : Nat} (hk : k * 256 < l.length) (hj : j = min (l.length - k * 256) 256) : pageOf (imgOf l) k = (l.drop (k * 256)).take j ++ List.replicate (256 - j) 0 := by
  have hp : k < pagesOf l.length := by unfold pagesOf; omega
  have hq : pagesOf l.length * 256 - l.length < 256 := by unfold pagesOf; omega
  have hq2 : l.length ≤ pagesOf l.length * 256 := by unfold pagesOf; omega
  have hq3 : (k + 1) * 256 ≤ pagesOf l.length * 256 := Nat.mul_le_mul_right _ hp
  unfold pageOf imgOf
  rw [take_drop_app _ _ _ _ (Nat.le_of_lt hk), List.take_replicate]
  rcases Nat.lt_or_ge (l.length - k * 256) 256 with h | h
  · have hj2 : j = l.length - k * 256 := by omega
    have e : pagesOf l.length * 256 = (k + 1) * 256 := by
      have : pagesOf l.length ≤ k + 1 := by unfold pagesOf; omega
      have := Nat.mul_le_mul_right 256 this
      omega
    congr 1
    · rw [List.take_of_length_le (by rw [List.length_drop]; omega), List.take_of_length_le (by rw [List.length_drop]; omega)]
    · congr 1
      omega
  · have hj2 : j = 256 := by omega
    subst hj2
    congr 1
    rw [show min (256 - (l.length - k * 256)) (pagesOf l.length * 256 - l.length) = 0 by omega]
theorem pagesS_take {st : List UInt8} {n k : Nat} (hk : k < n) : (pagesS st n).take (k + 1) = (pagesS st n).take k ++ [str (pageOf st k)] := by
  have h := pagesS_at (st := st) hk
  obtain ⟨h1, h2⟩ := List.getElem?_eq_some_iff.1 h
  rw [List.take_succ_eq_append_getElem h1, h2]

set_option maxHeartbeats 1600000 in
set_option maxRecDepth 100000 in
theorem refImage_any (l : List UInt8) (w : World) (hl : l.length ≤ 131072) : Calls Try.prog 26 #[.string (str l)] w fun e w' =>
    ∃ b, e = .returned (.tuple #[.pointer (some ⟨b, 0, none⟩), .int .i64 0]) ∧ Ref w' b (pagesOf l.length) (imgOf l) [] (fun i => w.heap.size ≤ i) ∧ Below w.heap.size w w' := by
  obtain ⟨n, hn⟩ : ∃ n, n = pagesOf l.length := ⟨_, rfl⟩
  have hn5 : n ≤ 512 := by rw [hn]; unfold pagesOf; omega
  have hn1 : l.length ≤ n * 256 := by rw [hn]; unfold pagesOf; omega
  have hn2 : n * 256 < l.length + 256 := by rw [hn]; unfold pagesOf; omega
  have HIL := Lib.hid (imgOf_len l)
  rw [← hn] at HIL ⊢
  have HN := Lib.hid hn
  clear hn
  have hs0 : (str l).size ≤ 131072 := by rw [str_size]; exact hl
  go_enter Try.func26, Try.ntmps26
  go_wp2
  have HA0 := Lib.hid (refAt_new w)
  have HI0 := Lib.hid (refIn_new w)
  have HB0 := Lib.hid (show Below w.heap.size w (w.alloc (.cells #[.slice none 0 0, .slice none 0 0] 45)) from (Below.refl _ _).alloc (Nat.le_refl _) _)
  obtain ⟨b, hb⟩ : ∃ b, b = w.heap.size := ⟨_, rfl⟩
  rw [← hb]
  have HI1 : Hid (RefIn (w.alloc (.cells #[.slice none 0 0, .slice none 0 0] 45)) b (.slice none 0 0) (.slice none 0 0) (fun i => w.heap.size ≤ i)) := Lib.hid (by have := HI0.out; rw [hb]; exact this)
  rw [← hb] at HA0
  clear HI0
  generalize w.alloc (.cells #[.slice none 0 0, .slice none 0 0] 45) = w0 at *
  clear hb
  simp only [show decide (131072 < ((str l).size : Int)) = false from decide_eq_false (by omega)]
  go_loopw [0] (fun s wr => ∃ k : Nat, k ≤ n ∧ s = .string (str (l.drop (k * 256))) ∧ Hid (∃ vP, RefAt wr b vP (.slice none 0 0) ((pagesS (imgOf l) n).take k) [] ∧ RefIn wr b vP (.slice none 0 0) (fun i => w.heap.size ≤ i)) ∧ Hid (Below w.heap.size w wr)) (fun s _ => szS s)
  case atStart => exact ⟨0, Nat.zero_le _, by rw [Nat.zero_mul, List.drop_zero], Lib.hid ⟨_, by rw [List.take_zero]; exact HA0.out, HI1.out⟩, HB0⟩
  case round =>
    obtain ⟨k, hk, rfl, HR, HB⟩ := hrel
    clear HA0 HI1 HB0
    have hrs : (str (l.drop (k * 256))).size = l.length - k * 256 := by rw [str_size, List.length_drop]
    by_cases hlt : k * 256 < l.length
    · have hkn : k < n := by omega
      obtain ⟨j, hj⟩ : ∃ j, j = min (l.length - k * 256) 256 := ⟨_, rfl⟩
      obtain ⟨z, hz⟩ : ∃ z, z = 256 - j := ⟨_, rfl⟩
      have hpage := imgOf_page hlt hj
      rw [← hz] at hpage
      have hadd : (str (l.drop (k * 256))).extract 0 j ++ str (List.replicate z 0) = str (pageOf (imgOf l) k) := by rw [hpage, str_take, str_add]
      have hrest : (str (l.drop (k * 256))).extract j (str (l.drop (k * 256))).size = str (l.drop ((k + 1) * 256)) := by
        rw [str_drop, List.drop_drop]
        rcases Nat.lt_or_ge (l.length - k * 256) 256 with h | h
        · rw [List.drop_of_length_le (by omega), List.drop_of_length_le (by omega)]
        · rw [show k * 256 + j = (k + 1) * 256 by omega]
      have HP := Lib.hid (pagesS_take (st := imgOf l) hkn)
      generalize str (pageOf (imgOf l) k) = pg at *
      obtain ⟨zs, hzs⟩ : ∃ zs : List UInt8, zs = List.replicate z 0 := ⟨_, rfl⟩
      have hzl : zs.length = z := by rw [hzs]; simp
      rw [← hzs] at hadd
      obtain ⟨vP, hat, hin⟩ := HR.out
      have hpl : ((pagesS (imgOf l) n).take k).length = k := by rw [List.length_take, pagesS_len]; omega
      obtain ⟨Ap, cp, hvp, _⟩ := hat.ownP.form
      rw [hpl] at hvp
      subst hvp
      obtain ⟨W, hW⟩ : ∃ W, W = wr.drew := ⟨_, rfl⟩
      have hbW : Below wr.heap.size wr W := by rw [hW]; exact (Below.refl _ _).drew
      have hatW := hat.below hin hbW
      have hinW := hin.below hbW
      have hm := run_make_bytes z z (Nat.le_refl _) (by omega) W
      rw [made_list, ← bcells_zero, ← hzs] at hm
      obtain ⟨W1, hW1⟩ : ∃ W1, W1 = W.alloc (.cells (bcells zs).toArray 5) := ⟨_, rfl⟩
      rw [← hW1] at hm
      have hbW1 : Below W.heap.size W W1 := by rw [hW1]; exact (Below.refl _ _).alloc (Nat.le_refl _) _
      have hrow1 : W1.heap[W.heap.size]? = some (.cells (bcells zs).toArray 5 (0, 0)) := by rw [hW1]; exact heap_alloc_new W _
      have hat1 := hatW.below hinW hbW1
      have hin1 := hinW.below hbW1
      have hvlt : ∀ i, (Value.slice Ap k cp).ownBlock = some i → i < W.heap.size := fun i hi => (hinW i (.inr (.inl hi))).2
      obtain ⟨v', w4, hrun, hown4, hg4, hblk4⟩ := hat1.append pg (by omega)
      obtain ⟨hatE, hinE, hkE⟩ := hat1.push hin1 hown4 hg4 hblk4 (fun i hi => Nat.le_trans HB.out.size (Nat.le_trans hbW.size (Nat.le_trans hbW1.size hi)))
      have hbE : Below w.heap.size w (w4.setCell ⟨b, 0, none⟩ v') := Keep.base (bthen HB.out (bthen hbW hbW1)) (bthen HB.out (bthen hbW hbW1)).size hkE
      obtain ⟨A4, n4, c4, hv4⟩ : ∃ A n c, v' = Value.slice A n c := by
        obtain ⟨A', c', h, _⟩ := OwnL.form hown4
        exact ⟨_, _, _, h⟩
      have hbl := (hinW b (.inl rfl)).2
      have hbA : Below W1.heap.size W1 (W1.alloc (.cells #[.string pg] 9)) := (Below.refl _ _).alloc (Nat.le_refl _) _
      have hbox4 : w4.heap[b]? = some (.cells #[.slice Ap k cp, .slice none 0 0] 45 (0, 0)) := by
        rw [hg4.block b (Nat.lt_of_lt_of_le hbl (Nat.le_trans hbW1.size hbA.size)) (fun e => hat1.bP e.symm), hbA.block b (Nat.lt_of_lt_of_le hbl hbW1.size)]
        exact hat1.box
      have hc4 := cell_at hbox4 0 (.slice Ap k cp) rfl
      have hf4 := free_at hbox4 0
      have hqb : ∀ q' : Dc.Past (Value.slice Ap k cp).ownBlock.toList W, q'.val.cell? ⟨b, 0, none⟩ = some (.slice Ap k cp) := fun q' => (q'.ok.cell hbl (fun h => hatW.bP (by simpa using h))).trans (cell_at hatW.box 0 _ rfl)
      have hqc : ∀ q' : Dc.Past (Value.slice Ap k cp).ownBlock.toList W1, (convert 35 9 (.slice (some ⟨W.heap.size, 0, none⟩) z z)).run Try.prog q'.val = .ok (.string (str zs)) q'.val := fun q' =>
        conv_rd (rd_whole ((q'.ok.2 _ (lt_of_block hrow1) (fun h => by have := hvlt _ (by simpa using h); omega)).trans hrow1)) hzl
      have hszz : (str zs).size = z := by rw [str_size, hzl]
      generalize str zs = zstr at *
      have hsrl : (str (l.drop ((k + 1) * 256))).size < (str (l.drop (k * 256))).size := by rw [str_size, str_size, List.length_drop, List.length_drop]; omega
      have HSRL := Lib.hid hsrl
      have hrz : (str (l.drop (k * 256))).size ≤ 131072 := by omega
      have hr0 : 0 < (str (l.drop (k * 256))).size := by omega
      have hjs : j ≤ (str (l.drop (k * 256))).size := by omega
      have hmin : min ((str (l.drop (k * 256))).size : Int) 256 = (j : Int) := by omega
      have hsub : (256 : Int) - (j : Int) = (z : Int) := by omega
      have hj256 : j ≤ 256 := by omega
      have HREST := Lib.hid hrest
      have HADD := Lib.hid hadd
      clear hrs hrest hsrl hpage hzs hzl hj hz hadd
      obtain ⟨nx, hnx⟩ : ∃ nx, nx = str (l.drop ((k + 1) * 256)) := ⟨_, rfl⟩
      rw [← hnx] at HREST HSRL
      have HNX := Lib.hid hnx
      clear hnx
      generalize str (l.drop (k * 256)) = sr at *
      have HRUN := Lib.hid hrun
      have HAE := Lib.hid hatE
      have HIE := Lib.hid hinE
      have HBE := Lib.hid hbE
      have HG4 := Lib.hid hg4
      have HV4 := Lib.hid hv4
      have HW := Lib.hid hW
      have HM := Lib.hid hm
      have HBA := Lib.hid hbA
      have HB1 := Lib.hid hbW1
      clear hW hbW hatW hinW hm hW1 hbW1 hrow1 hat1 hin1 hvlt hrun hown4 hg4 hblk4 hatE hinE hkE hbE hv4 hbA hbox4 hat hin hpl
      go_wp2
      refine Dc.wp_region_segs 17 (Value.slice Ap k cp).ownBlock.toList [([0, 1, 2, 3, 4, 5, 6, 7, 8, 9], 10), ([11, 12], 13), ([], 14), ([15, 16], 17)] [] (by kernel_rfl) (by kernel_rfl) (by kernel_rfl) (by kernel_rfl) (by kernel_rfl) (by intro c a d v w h; cases d <;> exact h) ?_
      rw [← HW.out]
      refine Dc.wpSegs_more ?_
      simp only [Dc.pick, List.getElem?_cons_zero, List.getElem?_cons_succ]
      repeat (first | go_big_quiet_step (fail) | quiet_step (fail))
      refine wpQuiet_nil ?_
      refine Dc.wpOp_heavy rfl (by rfl) (fun K hK => ?_)
      refine oper_run (.slice (some ⟨W.heap.size, 0, none⟩) z z) (w' := W1) ?_ (hK _ _ (fun _ => Dc.But.of_below HB1.out) ?_)
      · have := HM.out
        unfold execOp
        simp only [Act.eval, Array.getD_eq_getD_getElem?, List.getElem?_toArray, List.getElem?_cons_succ, List.getElem?_cons_zero, Option.getD_some, Sem.run_bind, Sem.run_pure, Result.andThen_ok, this]
      simp only [Act.put]
      clear hK K hqb
      refine Dc.wpSegs_more ?_
      simp only [Dc.pick, List.getElem?_cons_zero, List.getElem?_cons_succ]
      repeat (first | go_big_quiet_step (fail) | quiet_step (fail))
      refine wpQuiet_nil ?_
      clear hqc
      refine Dc.wpOp_heavy rfl (by rfl) (fun K hK => ?_)
      have hadd := HADD.out
      go_simp
      clear hadd
      refine hK _ _ (fun _ => Dc.But.of_below HBA.out) ?_
      clear hK K
      refine Dc.wpSegs_more ?_
      simp only [Dc.pick]
      refine wpQuiet_nil ?_
      refine Dc.wpOp_heavy rfl (by rfl) (fun K hK => ?_)
      refine oper_append_ran (.tmp 21) (.tmp 30) 42 rfl _ _ _ _ rfl rfl HRUN.out ?_
      refine hK _ _ (fun _ => but_of_grown HG4.out) ?_
      clear hK K
      refine Dc.wpSegs_more ?_
      simp only [Dc.pick, List.getElem?_cons_zero, List.getElem?_cons_succ]
      repeat (first | go_big_quiet_step (fail) | quiet_step (fail))
      refine wpQuiet_nil ?_
      refine Dc.wpOp_heavy rfl (by rfl) (fun K hK => ?_)
      have hv4 := HV4.out
      subst hv4
      go_simp
      refine hK _ _ (fun h => absurd rfl h) ?_
      clear hK K
      refine Dc.wpSegs_last ?_
      simp only [Dc.pick]
      refine wpQuiet_nil ?_
      go_wp2
      refine ⟨⟨k + 1, by omega, by rw [HREST.out, HNX.out], Lib.hid ⟨_, ?_, HIE.out⟩, HBE⟩, ?_⟩
      · rw [HP.out]
        exact HAE.out
      · rw [HREST.out]
        exact HSRL.out
    · obtain rfl : k = n := by omega
      have hr0 : (str (l.drop (k * 256))).size = 0 := by omega
      obtain ⟨vP, hat, hin⟩ := HR.out
      rw [List.take_of_length_le (by rw [pagesS_len]; omega)] at hat
      have HE := Lib.hid (show Ref wr b k (imgOf l) [] (fun i => w.heap.size ≤ i) from ⟨⟨HIL.out, hn5, by simp⟩, vP, .slice none 0 0, hat, hin⟩)
      clear hat hin HR hrs
      go_wp2
      go_ret2
      exact ⟨b, rfl, HE.out, HB.out⟩

end Go.Proofs.Ythjgcbpanfiacaa
