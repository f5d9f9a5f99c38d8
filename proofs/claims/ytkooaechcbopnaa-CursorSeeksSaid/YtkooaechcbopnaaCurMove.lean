/-
  The contracts of a cursor's moves and of Entry; conditions: the tree lies in memory, the cursor in a block behind it; nil cursors.
-/
import Derived.Test.YtkooaechcbopnaaCurMem
namespace Go.Proofs.Ytkooaechcbopnaa
open Go.RowKit Go.Sort Go.Shelf Rt
set_option linter.unusedVariables false
set_option linter.unusedSimpArgs false

section
variable {w0 w : World} {T : TO}
theorem firstFrom (ht : TreeIs w0 T) (hb : Below w0.heap.size w0 w) (key left : ByteArray) {W : World} (hW : Below (boxed2 w (tb T) key).heap.size (boxed2 w (tb T) key) W) :
    Calls Try.prog 27 #[.func (.func 40) #[] #[pb w.heap.size, pb (w.heap.size + 1)], .string left] W fun e w' => e = .returned (ansV (hit left ((tl T).filter (ge key)))) ∧ Below W.heap.size W w' := by
  have hs := boxed2_size w (tb T) key
  have h0 := hb.size
  have h1 := hW.size
  refine first_gives (K := Kf w0.heap.size w.heap.size (w.heap.size + 1)) left (enters_of Try.func40 (by kernel_rfl) rfl) (fun V hV => ?_) (fun k hk => ?_)
  · have hbV := hW.trans (hV.mono hW.size)
    exact from_gives ht key (hb.trans (((boxed2_below w (tb T) key).trans (hbV.mono (by omega))).mono h0)) (cell_row ((hbV.block _ (by omega)).trans (boxed2_n w (tb T) key)) 0 _ rfl) (cell_row ((hbV.block _ (by omega)).trans (boxed2_k w (tb T) key)) 0 _ rfl)
  · rcases hk with hk | rfl | rfl <;> omega
theorem firstBack (ht : TreeIs w0 T) (hb : Below w0.heap.size w0 w) (key left : ByteArray) {W : World} (hW : Below (boxed2 w (tb T) key).heap.size (boxed2 w (tb T) key) W) :
    Calls Try.prog 27 #[.func (.func 43) #[] #[pb w.heap.size, pb (w.heap.size + 1)], .string left] W fun e w' => e = .returned (ansV (hit left ((tl T).filter (le key)).reverse)) ∧ Below W.heap.size W w' := by
  have hs := boxed2_size w (tb T) key
  have h0 := hb.size
  have h1 := hW.size
  refine first_gives (K := Kf w0.heap.size w.heap.size (w.heap.size + 1)) left (enters_of Try.func43 (by kernel_rfl) rfl) (fun V hV => ?_) (fun k hk => ?_)
  · have hbV := hW.trans (hV.mono hW.size)
    exact backFrom_gives ht key (hb.trans (((boxed2_below w (tb T) key).trans (hbV.mono (by omega))).mono h0)) (cell_row ((hbV.block _ (by omega)).trans (boxed2_n w (tb T) key)) 0 _ rfl) (cell_row ((hbV.block _ (by omega)).trans (boxed2_k w (tb T) key)) 0 _ rfl)
  · rcases hk with hk | rfl | rfl <;> omega
end

theorem le_hi {w : World} {T : TO} (ht : TreeIs w T) : (tl T).filter (le (hiOf T)) = tl T := filter_all fun e he => by
  cases T with
  | none => cases he
  | some x =>
    simp only [le, decide_eq_true_eq]
    exact (ht x rfl).le_hi he

/-- What a move answers. -/
def MvPost (w0 : World) (T : TO) (b : Nat) (q : Option Nat) (w : World) (e : Ending) (w' : World) : Prop := e = .returned (.bool q.isSome) ∧ Mv b w w' ∧ Cur w0 T b q w'

set_option maxHeartbeats 2000000 in
theorem curSeek_any {w0 w : World} {T : TO} {b : Nat} {p : Option Nat} (h : Cur w0 T b p w) (key : ByteArray) :
    Calls Try.prog 15 #[pb b, .string key] w (MvPost w0 T b (mvSeek (tl T) key) w) := by
  obtain ⟨pt, hpt⟩ : ∃ pt, tb T = .pointer pt := ⟨_, rfl⟩
  have hc := h.c0
  rw [hpt] at hc
  have H := Lib.hid h
  have HP := Lib.hid hpt
  clear h hpt
  go_enter Try.func15, Try.ntmps15
  go_wp2_with fail
  refine (from_made w pt key).mono ?_
  rintro e w1 ⟨rfl, rfl⟩
  rw [← HP.out]
  have HB := Lib.hid (boxed2_below w (tb T) key)
  have HF := Lib.hid (fun left => firstFrom (w := w) H.out.tr H.out.bel key left (Below.refl _ (boxed2 w (tb T) key)))
  obtain ⟨w2, hw2⟩ : ∃ w2, boxed2 w (tb T) key = w2 := ⟨_, rfl⟩
  rw [hw2] at HB HF ⊢
  clear hw2 hc
  go_wp2_with fail
  refine (HF.out ByteArray.empty).mono ?_
  rintro e w3 ⟨rfl, hb3⟩
  rw [hit_seek H.out.sorted H.out.okE]
  have H3 := Lib.hid (H.out.below (bthen HB.out hb3))
  have HM := Lib.hid (Stp.of_below (T := fun i => i = b) (bthen HB.out hb3) fun i hi => by rw [hi]; exact H.out.lt)
  have HQ := Lib.hid (okP_inL (tl T) (lows (tl T) key).length)
  unfold ansV
  clear HB HF hb3
  obtain ⟨ae, hae⟩ : ∃ ae, ansE (entAt (tl T) (mvSeek (tl T) key)) = ae := ⟨_, rfl⟩
  obtain ⟨af, haf⟩ : ∃ af, (entAt (tl T) (mvSeek (tl T) key)).isSome = af := ⟨_, rfl⟩
  rw [hae, haf]
  have HAE := Lib.hid hae
  have HAF := Lib.hid haf
  clear hae haf
  go_wp2_with fail
  rw [← HAE.out, ← HAF.out]
  refine (curMoveTo_any H3.out HQ.out).mono ?_
  rintro e w4 ⟨rfl, hm, hc⟩
  have HM4 := Lib.hid (HM.out.trans hm)
  have HC4 := Lib.hid hc
  clear hm hc
  go_wp2
  go_ret
  exact ⟨rfl, HM4.out, HC4.out⟩

theorem curFirst_any {w0 w : World} {T : TO} {b : Nat} {p : Option Nat} (h : Cur w0 T b p w) :
    Calls Try.prog 12 #[pb b] w (MvPost w0 T b (mvFirst (tl T)) w) := by
  have H := Lib.hid h
  clear h
  go_enter Try.func12, Try.ntmps12
  go_wp2_with fail
  refine (curSeek_any H.out ByteArray.empty).mono ?_
  rintro e w1 ⟨rfl, hm, hc⟩
  rw [mvSeek_empty] at hc ⊢
  have HM := Lib.hid hm
  have HC := Lib.hid hc
  clear hm hc
  go_wp2
  go_ret
  exact ⟨rfl, HM.out, HC.out⟩

set_option maxHeartbeats 2000000 in
theorem curLast_any {w0 w : World} {T : TO} {b : Nat} {p : Option Nat} (h : Cur w0 T b p w) :
    Calls Try.prog 14 #[pb b] w (MvPost w0 T b (mvLast (tl T)) w) := by
  obtain ⟨pt, hpt⟩ : ∃ pt, tb T = .pointer pt := ⟨_, rfl⟩
  have hc := h.c0
  rw [hpt] at hc
  have H := Lib.hid h
  have HP := Lib.hid hpt
  clear h hpt
  go_enter Try.func14, Try.ntmps14
  go_wp2_with fail
  rw [← HP.out]
  have HT : Hid (TreeIs w T) := Lib.hid (H.out.tr.below H.out.bel)
  refine (back_made HT.out).mono ?_
  rintro e w1 ⟨q, rfl, rfl⟩
  have HB := Lib.hid (bthen (below_drewN (Below.refl _ w) q) (boxed2_below (w.drewN q) (tb T) (hiOf T)))
  have HF := Lib.hid (fun left => firstBack (w := w.drewN q) H.out.tr (below_drewN H.out.bel q) (hiOf T) left (Below.refl _ (boxed2 (w.drewN q) (tb T) (hiOf T))))
  obtain ⟨w2, hw2⟩ : ∃ w2, boxed2 (w.drewN q) (tb T) (hiOf T) = w2 := ⟨_, rfl⟩
  rw [hw2] at HB HF ⊢
  clear hw2 hc
  go_wp2_with fail
  refine (HF.out ByteArray.empty).mono ?_
  rintro e w3 ⟨rfl, hb3⟩
  rw [show (tl T).filter (le (hiOf T)) = tl T from le_hi HT.out, hit_last H.out.okE]
  have H3 := Lib.hid (H.out.below (bthen HB.out hb3))
  have HM := Lib.hid (Stp.of_below (T := fun i => i = b) (bthen HB.out hb3) fun i hi => by rw [hi]; exact H.out.lt)
  have HQ := Lib.hid (okP_inL (tl T) ((tl T).length - 1))
  unfold ansV
  clear HB HF hb3
  obtain ⟨ae, hae⟩ : ∃ ae, ansE (entAt (tl T) (mvLast (tl T))) = ae := ⟨_, rfl⟩
  obtain ⟨af, haf⟩ : ∃ af, (entAt (tl T) (mvLast (tl T))).isSome = af := ⟨_, rfl⟩
  rw [hae, haf]
  have HAE := Lib.hid hae
  have HAF := Lib.hid haf
  clear hae haf
  go_wp2_with fail
  rw [← HAE.out, ← HAF.out]
  refine (curMoveTo_any H3.out HQ.out).mono ?_
  rintro e w4 ⟨rfl, hm, hc⟩
  have HM4 := Lib.hid (HM.out.trans hm)
  have HC4 := Lib.hid hc
  clear hm hc
  go_wp2
  go_ret
  exact ⟨rfl, HM4.out, HC4.out⟩

set_option maxHeartbeats 4000000 in
set_option maxRecDepth 100000 in
theorem curNext_any {w0 w : World} {T : TO} {b : Nat} {p : Option Nat} (h : Cur w0 T b p w) :
    Calls Try.prog 17 #[pb b] w (MvPost w0 T b (mvNext (tl T) p) w) := by
  obtain ⟨pt, hpt⟩ : ∃ pt, tb T = .pointer pt := ⟨_, rfl⟩
  have hb0 : Below w.heap.size w w.drew := (Below.refl _ _).drew
  obtain ⟨w1, hw1⟩ : ∃ w1, w.drew = w1 := ⟨_, rfl⟩
  rw [hw1] at hb0
  have hcur := h.below hb0
  have HM0 : Hid (Mv b w w1) := Lib.hid (Stp.of_below hb0 fun i hi => by rw [hi]; exact h.lt)
  have H := Lib.hid hcur
  have HP := Lib.hid hpt
  have HW := Lib.hid hw1
  clear h hb0 hcur
  go_enter Try.func17, Try.ntmps17
  go_wp2_with fail
  refine Dc.wp_region_segs 20 [] [([0], 1), ([2, 3, 4, 5, 6, 7, 8, 9, 10, 11, 13, 14, 15, 16], 12), ([], 17), ([18, 19], 20)] [21, 22] (by kernel_rfl) (by kernel_rfl) (by kernel_rfl) (by kernel_rfl) (by kernel_rfl) (by intro c a d v w h; cases d <;> exact h) ?_
  rw [HW.out]
  refine Dc.wpSegs_more ?_
  simp only [Dc.pick, List.getElem?_cons_zero, List.getElem?_cons_succ]
  repeat (first | go_big_quiet_step (fail) | quiet_step (fail))
  refine wpQuiet_nil ?_
  refine Dc.wpOp_heavy rfl (by rfl) (fun K hK => ?_)
  go_simp
  refine (curPlaced_any H.out).mono ?_
  rintro e w2 ⟨rfl, rfl⟩
  refine hK _ _ (fun _ => Dc.But.refl _ _) ?_
  clear hK K
  cases p with
  | none =>
    simp only [Option.isSome_none]
    refine Dc.wpSegs_more ?_
    simp only [Dc.pick, List.getElem?_cons_zero, List.getElem?_cons_succ]
    repeat (first | go_big_quiet_step (fail) | quiet_step (fail))
    refine wpQuiet_nil ?_
    refine Dc.wpOp_idle rfl (by rfl) ?_
    refine Dc.wpSegs_more ?_
    simp only [Dc.pick]
    refine wpQuiet_nil ?_
    refine Dc.wpOp_idle rfl (by rfl) ?_
    refine Dc.wpSegs_more ?_
    simp only [Dc.pick, List.getElem?_cons_zero, List.getElem?_cons_succ]
    repeat (first | go_big_quiet_step (fail) | quiet_step (fail))
    refine wpQuiet_nil ?_
    refine Dc.wpOp_idle rfl (by rfl) ?_
    refine Dc.wpSegs_last ?_
    simp only [Dc.pick, List.getElem?_cons_zero, List.getElem?_cons_succ]
    repeat (first | go_big_quiet_step (fail) | quiet_step (fail))
    refine wpQuiet_nil ?_
    go_wp2
    go_ret
    exact ⟨rfl, HM0.out, H.out⟩
  | some i =>
    simp only [Option.isSome_some]
    obtain ⟨k, hk⟩ : ∃ k, keyAt (tl T) (some i) = k := ⟨_, rfl⟩
    have hc0 : ∀ q' : Dc.Past [] w1, q'.val.cell? ⟨b, 0, none⟩ = some (.pointer pt) := fun q' => (q'.ok.cell H.out.lt (by simp)).trans (by rw [← HP.out]; exact H.out.c0)
    have hc1 : ∀ q' : Dc.Past [] w1, q'.val.cell? ⟨b, 1, none⟩ = some (.string k) := fun q' => (q'.ok.cell H.out.lt (by simp)).trans (by rw [← hk]; exact H.out.c1)
    have HK := Lib.hid hk
    clear hk
    refine Dc.wpSegs_more ?_
    simp only [Dc.pick, List.getElem?_cons_zero, List.getElem?_cons_succ]
    repeat (first | go_big_quiet_step (fail) | quiet_step (fail))
    refine wpQuiet_nil ?_
    refine Dc.wpOp_heavy rfl (by rfl) (fun K hK => ?_)
    go_simp
    clear hc0 hc1
    refine (from_made w1 pt k).mono ?_
    rintro e w2 ⟨rfl, rfl⟩
    rw [← HP.out]
    have hbx := boxed2_below w1 (tb T) k
    refine hK _ _ (fun _ => Dc.But.of_below hbx) ?_
    clear hK K
    have HF := Lib.hid (fun left => firstFrom (w := w1) H.out.tr H.out.bel k left (Below.refl _ (boxed2 w1 (tb T) k)))
    obtain ⟨w2, hw2⟩ : ∃ w2, boxed2 w1 (tb T) k = w2 := ⟨_, rfl⟩
    rw [hw2] at HF hbx ⊢
    have HB := Lib.hid hbx
    clear hw2 hbx
    refine Dc.wpSegs_more ?_
    simp only [Dc.pick]
    refine wpQuiet_nil ?_
    refine Dc.wpOp_heavy rfl (by rfl) (fun K hK => ?_)
    go_simp
    refine (HF.out k).mono ?_
    rintro e w3 ⟨rfl, hb3⟩
    refine hK _ _ (fun _ => Dc.But.of_below hb3) ?_
    clear hK K
    have H3 := Lib.hid (H.out.below (bthen HB.out hb3))
    have HM := Lib.hid (Stp.of_below (T := fun i => i = b) (bthen HB.out hb3) fun i hi => by rw [hi]; exact H.out.lt)
    have he : hit k ((tl T).filter (ge k)) = entAt (tl T) (mvNext (tl T) (some i)) := by
      rw [← HK.out]
      exact hit_next H.out.sorted H.out.ok (by simp)
    rw [he]
    have HQ := Lib.hid (okP_next (tl T) (some i))
    unfold ansV
    clear HB HF hb3 he
    obtain ⟨q, hq⟩ : ∃ q, mvNext (tl T) (some i) = q := ⟨_, rfl⟩
    rw [hq] at HQ ⊢
    obtain ⟨ae, hae⟩ : ∃ ae, ansE (entAt (tl T) q) = ae := ⟨_, rfl⟩
    obtain ⟨af, haf⟩ : ∃ af, (entAt (tl T) q).isSome = af := ⟨_, rfl⟩
    rw [hae, haf]
    have HAE := Lib.hid hae
    have HAF := Lib.hid haf
    have HQE := Lib.hid hq
    clear hae haf hq
    refine Dc.wpSegs_more ?_
    simp only [Dc.pick, List.getElem?_cons_zero, List.getElem?_cons_succ]
    repeat (first | go_big_quiet_step (fail) | quiet_step (fail))
    refine wpQuiet_nil ?_
    refine Dc.wpOp_heavy rfl (by rfl) (fun K hK => ?_)
    go_simp
    rw [← HAE.out, ← HAF.out]
    refine (curMoveTo_any H3.out HQ.out).mono ?_
    rintro e w4 ⟨rfl, hm, hc⟩
    refine hK _ _ (fun h => absurd rfl h) ?_
    clear hK K
    have HM4 := Lib.hid ((HM0.out.trans HM.out).trans hm)
    have HC4 := Lib.hid hc
    clear hm hc
    refine Dc.wpSegs_last ?_
    simp only [Dc.pick, List.getElem?_cons_zero, List.getElem?_cons_succ]
    repeat (first | go_big_quiet_step (fail) | quiet_step (fail))
    refine wpQuiet_nil ?_
    go_wp2
    go_ret
    rw [HQE.out]
    exact ⟨rfl, HM4.out, HC4.out⟩

set_option maxHeartbeats 4000000 in
set_option maxRecDepth 100000 in
theorem curPrev_any {w0 w : World} {T : TO} {b : Nat} {p : Option Nat} (h : Cur w0 T b p w) :
    Calls Try.prog 19 #[pb b] w (MvPost w0 T b (mvPrev (tl T) p) w) := by
  obtain ⟨pt, hpt⟩ : ∃ pt, tb T = .pointer pt := ⟨_, rfl⟩
  have hb0 : Below w.heap.size w w.drew := (Below.refl _ _).drew
  obtain ⟨w1, hw1⟩ : ∃ w1, w.drew = w1 := ⟨_, rfl⟩
  rw [hw1] at hb0
  have hcur := h.below hb0
  have HM0 : Hid (Mv b w w1) := Lib.hid (Stp.of_below hb0 fun i hi => by rw [hi]; exact h.lt)
  have H := Lib.hid hcur
  have HP := Lib.hid hpt
  have HW := Lib.hid hw1
  clear h hb0 hcur
  go_enter Try.func19, Try.ntmps19
  go_wp2_with fail
  refine Dc.wp_region_segs 20 [] [([0], 1), ([2, 3, 4, 5, 6, 7, 8, 9, 10, 11, 13, 14, 15, 16], 12), ([], 17), ([18, 19], 20)] [21, 22] (by kernel_rfl) (by kernel_rfl) (by kernel_rfl) (by kernel_rfl) (by kernel_rfl) (by intro c a d v w h; cases d <;> exact h) ?_
  rw [HW.out]
  refine Dc.wpSegs_more ?_
  simp only [Dc.pick, List.getElem?_cons_zero, List.getElem?_cons_succ]
  repeat (first | go_big_quiet_step (fail) | quiet_step (fail))
  refine wpQuiet_nil ?_
  refine Dc.wpOp_heavy rfl (by rfl) (fun K hK => ?_)
  go_simp
  refine (curPlaced_any H.out).mono ?_
  rintro e w2 ⟨rfl, rfl⟩
  refine hK _ _ (fun _ => Dc.But.refl _ _) ?_
  clear hK K
  cases p with
  | none =>
    simp only [Option.isSome_none]
    refine Dc.wpSegs_more ?_
    simp only [Dc.pick, List.getElem?_cons_zero, List.getElem?_cons_succ]
    repeat (first | go_big_quiet_step (fail) | quiet_step (fail))
    refine wpQuiet_nil ?_
    refine Dc.wpOp_idle rfl (by rfl) ?_
    refine Dc.wpSegs_more ?_
    simp only [Dc.pick]
    refine wpQuiet_nil ?_
    refine Dc.wpOp_idle rfl (by rfl) ?_
    refine Dc.wpSegs_more ?_
    simp only [Dc.pick, List.getElem?_cons_zero, List.getElem?_cons_succ]
    repeat (first | go_big_quiet_step (fail) | quiet_step (fail))
    refine wpQuiet_nil ?_
    refine Dc.wpOp_idle rfl (by rfl) ?_
    refine Dc.wpSegs_last ?_
    simp only [Dc.pick, List.getElem?_cons_zero, List.getElem?_cons_succ]
    repeat (first | go_big_quiet_step (fail) | quiet_step (fail))
    refine wpQuiet_nil ?_
    go_wp2
    go_ret
    exact ⟨rfl, HM0.out, H.out⟩
  | some i =>
    simp only [Option.isSome_some]
    obtain ⟨k, hk⟩ : ∃ k, keyAt (tl T) (some i) = k := ⟨_, rfl⟩
    have hc0 : ∀ q' : Dc.Past [] w1, q'.val.cell? ⟨b, 0, none⟩ = some (.pointer pt) := fun q' => (q'.ok.cell H.out.lt (by simp)).trans (by rw [← HP.out]; exact H.out.c0)
    have hc1 : ∀ q' : Dc.Past [] w1, q'.val.cell? ⟨b, 1, none⟩ = some (.string k) := fun q' => (q'.ok.cell H.out.lt (by simp)).trans (by rw [← hk]; exact H.out.c1)
    have HK := Lib.hid hk
    clear hk
    refine Dc.wpSegs_more ?_
    simp only [Dc.pick, List.getElem?_cons_zero, List.getElem?_cons_succ]
    repeat (first | go_big_quiet_step (fail) | quiet_step (fail))
    refine wpQuiet_nil ?_
    refine Dc.wpOp_heavy rfl (by rfl) (fun K hK => ?_)
    go_simp
    clear hc0 hc1
    refine (backFrom_made w1 pt k).mono ?_
    rintro e w2 ⟨rfl, rfl⟩
    rw [← HP.out]
    have hbx := boxed2_below w1 (tb T) k
    refine hK _ _ (fun _ => Dc.But.of_below hbx) ?_
    clear hK K
    have HF := Lib.hid (fun left => firstBack (w := w1) H.out.tr H.out.bel k left (Below.refl _ (boxed2 w1 (tb T) k)))
    obtain ⟨w2, hw2⟩ : ∃ w2, boxed2 w1 (tb T) k = w2 := ⟨_, rfl⟩
    rw [hw2] at HF hbx ⊢
    have HB := Lib.hid hbx
    clear hw2 hbx
    refine Dc.wpSegs_more ?_
    simp only [Dc.pick]
    refine wpQuiet_nil ?_
    refine Dc.wpOp_heavy rfl (by rfl) (fun K hK => ?_)
    go_simp
    refine (HF.out k).mono ?_
    rintro e w3 ⟨rfl, hb3⟩
    refine hK _ _ (fun _ => Dc.But.of_below hb3) ?_
    clear hK K
    have H3 := Lib.hid (H.out.below (bthen HB.out hb3))
    have HM := Lib.hid (Stp.of_below (T := fun i => i = b) (bthen HB.out hb3) fun i hi => by rw [hi]; exact H.out.lt)
    have he : hit k (((tl T).filter (le k)).reverse) = entAt (tl T) (mvPrev (tl T) (some i)) := by
      rw [← HK.out]
      exact hit_prev H.out.sorted H.out.ok (by simp)
    rw [he]
    have HQ := Lib.hid (okP_prev (tl T) (some i))
    unfold ansV
    clear HB HF hb3 he
    obtain ⟨q, hq⟩ : ∃ q, mvPrev (tl T) (some i) = q := ⟨_, rfl⟩
    rw [hq] at HQ ⊢
    obtain ⟨ae, hae⟩ : ∃ ae, ansE (entAt (tl T) q) = ae := ⟨_, rfl⟩
    obtain ⟨af, haf⟩ : ∃ af, (entAt (tl T) q).isSome = af := ⟨_, rfl⟩
    rw [hae, haf]
    have HAE := Lib.hid hae
    have HAF := Lib.hid haf
    have HQE := Lib.hid hq
    clear hae haf hq
    refine Dc.wpSegs_more ?_
    simp only [Dc.pick, List.getElem?_cons_zero, List.getElem?_cons_succ]
    repeat (first | go_big_quiet_step (fail) | quiet_step (fail))
    refine wpQuiet_nil ?_
    refine Dc.wpOp_heavy rfl (by rfl) (fun K hK => ?_)
    go_simp
    rw [← HAE.out, ← HAF.out]
    refine (curMoveTo_any H3.out HQ.out).mono ?_
    rintro e w4 ⟨rfl, hm, hc⟩
    refine hK _ _ (fun h => absurd rfl h) ?_
    clear hK K
    have HM4 := Lib.hid ((HM0.out.trans HM.out).trans hm)
    have HC4 := Lib.hid hc
    clear hm hc
    refine Dc.wpSegs_last ?_
    simp only [Dc.pick, List.getElem?_cons_zero, List.getElem?_cons_succ]
    repeat (first | go_big_quiet_step (fail) | quiet_step (fail))
    refine wpQuiet_nil ?_
    go_wp2
    go_ret
    rw [HQE.out]
    exact ⟨rfl, HM4.out, HC4.out⟩

set_option maxHeartbeats 4000000 in
set_option maxRecDepth 100000 in
theorem curEntry_any {w0 w : World} {T : TO} {b : Nat} {p : Option Nat} (h : Cur w0 T b p w) :
    Calls Try.prog 20 #[pb b] w fun e w' => e = .returned (ansV (entAt (tl T) p)) ∧ Below w.heap.size w w' := by
  obtain ⟨pt, hpt⟩ : ∃ pt, tb T = .pointer pt := ⟨_, rfl⟩
  have H := Lib.hid h
  have HP := Lib.hid hpt
  clear h hpt
  go_enter Try.func20, Try.ntmps20
  go_wp2_with fail
  obtain ⟨w1, hw1⟩ : ∃ w1, w.alloc (.cells #[.string ⟨#[]⟩, .string ⟨#[]⟩] 39) = w1 := ⟨_, rfl⟩
  have hb1 : Below w.heap.size w w1 := by rw [← hw1]; exact (Below.refl _ _).alloc (Nat.le_refl _) _
  have hr1 : w1.heap[w.heap.size]? = some (.cells #[.string ⟨#[]⟩, .string ⟨#[]⟩] 39 (0, 0)) := by rw [← hw1]; exact heap_alloc_new w _
  rw [hw1]
  have H1 := Lib.hid (H.out.below hb1)
  have HB1 := Lib.hid hb1
  have HR1 := Lib.hid hr1
  clear hw1 hb1 hr1
  refine (curPlaced_any H1.out).mono ?_
  rintro e w2 ⟨rfl, rfl⟩
  cases p with
  | none =>
    have q0 := cell_row HR1.out 0 _ rfl
    have q1 := cell_row HR1.out 1 _ rfl
    have f0 : w1.frozen? ⟨w.heap.size, 0, none⟩ = false := by simp [World.frozen?, HR1.out]
    have f1 : w1.frozen? ⟨w.heap.size, 1, none⟩ = false := by simp [World.frozen?, HR1.out]
    simp only [Option.isSome_none]
    have HB := Lib.hid (cells_set (cells_set HR1.out 0 (.string ⟨#[]⟩)) 1 (.string ⟨#[]⟩))
    have HG := Lib.hid ((HB1.out.setCell (p := ⟨w.heap.size, 0, none⟩) (Nat.le_refl _) (.string ⟨#[]⟩)).setCell (p := ⟨w.heap.size, 1, none⟩) (Nat.le_refl _) (.string ⟨#[]⟩))
    go_wp2
    refine bodyPost_ret (v := .tuple #[.agg #[.string ⟨#[]⟩, .string ⟨#[]⟩], .bool false]) ?_ rfl ⟨rfl, HG.out⟩
    have k0 := cell_row HB.out 0 (.string ⟨#[]⟩) rfl
    have k1 := cell_row HB.out 1 (.string ⟨#[]⟩) rfl
    simp [results, Try.results20, go_sem, k0, k1]
  | some i =>
    simp only [Option.isSome_some]
    obtain ⟨k, hk⟩ : ∃ k, keyAt (tl T) (some i) = k := ⟨_, rfl⟩
    have HK := Lib.hid hk
    obtain ⟨w3, hw3⟩ : ∃ w3, w1.drew = w3 := ⟨_, rfl⟩
    have hb3 : Below w1.heap.size w1 w3 := by rw [← hw3]; exact (Below.refl _ _).drew
    have hr3 : w3.heap[w.heap.size]? = some (.cells #[.string ⟨#[]⟩, .string ⟨#[]⟩] 39 (0, 0)) := (hb3.block _ (at_lt HR1.out)).trans HR1.out
    have H3 := Lib.hid (H1.out.below hb3)
    have HB3 := Lib.hid (bthen HB1.out hb3)
    have HR3 := Lib.hid hr3
    have HW3 := Lib.hid hw3
    have hc0 : ∀ q' : Dc.Past [] w3, q'.val.cell? ⟨b, 0, none⟩ = some (.pointer pt) := fun q' => (q'.ok.cell H3.out.lt (by simp)).trans (by rw [← HP.out]; exact H3.out.c0)
    have hc1 : ∀ q' : Dc.Past [] w3, q'.val.cell? ⟨b, 1, none⟩ = some (.string k) := fun q' => (q'.ok.cell H3.out.lt (by simp)).trans (by rw [← hk]; exact H3.out.c1)
    clear hk hb3 hr3 hw3
    go_wp2
    refine Dc.wp_region_segs 12 [] [([0, 1, 2, 3, 4, 5, 6, 7], 8), ([], 9), ([10, 11], 12)] [13] (by kernel_rfl) (by kernel_rfl) (by kernel_rfl) (by kernel_rfl) (by kernel_rfl) (by intro c a d v w h; cases d <;> exact h) ?_
    rw [HW3.out]
    refine Dc.wpSegs_more ?_
    simp only [Dc.pick, List.getElem?_cons_zero, List.getElem?_cons_succ]
    repeat (first | go_big_quiet_step (fail) | quiet_step (fail))
    refine wpQuiet_nil ?_
    refine Dc.wpOp_heavy rfl (by rfl) (fun K hK => ?_)
    go_simp
    clear hc0 hc1
    refine (from_made w3 pt k).mono ?_
    rintro e w4 ⟨rfl, rfl⟩
    rw [← HP.out]
    have hbx := boxed2_below w3 (tb T) k
    refine hK _ _ (fun _ => Dc.But.of_below hbx) ?_
    clear hK K
    have HF := Lib.hid (fun left => firstFrom (w := w3) H3.out.tr H3.out.bel k left (Below.refl _ (boxed2 w3 (tb T) k)))
    obtain ⟨w4, hw4⟩ : ∃ w4, boxed2 w3 (tb T) k = w4 := ⟨_, rfl⟩
    rw [hw4] at HF hbx ⊢
    have HB := Lib.hid hbx
    clear hw4 hbx
    refine Dc.wpSegs_more ?_
    simp only [Dc.pick]
    refine wpQuiet_nil ?_
    refine Dc.wpOp_heavy rfl (by rfl) (fun K hK => ?_)
    go_simp
    refine (HF.out ⟨#[]⟩).mono ?_
    rintro e w5 ⟨rfl, hb5⟩
    refine hK _ _ (fun _ => Dc.But.of_below hb5) ?_
    clear hK K
    have he : hit ⟨#[]⟩ ((tl T).filter (ge k)) = entAt (tl T) (some i) := by
      rw [← HK.out]
      exact hit_entry H3.out.sorted H3.out.okE H3.out.ok (by simp)
    rw [he]
    have hb35 := bthen HB.out hb5
    have hr5 := (hb35.block _ (at_lt HR3.out)).trans HR3.out
    have HB5 := Lib.hid (bthen HB3.out hb35)
    have q0 := cell_row hr5 0 _ rfl
    have q1 := cell_row hr5 1 _ rfl
    have f0 : w5.frozen? ⟨w.heap.size, 0, none⟩ = false := by simp [World.frozen?, hr5]
    have f1 : w5.frozen? ⟨w.heap.size, 1, none⟩ = false := by simp [World.frozen?, hr5]
    have HR5 := Lib.hid hr5
    unfold ansV ansE
    clear HB HF hb5 he hb35 hr5
    obtain ⟨ek, hek⟩ : ∃ ek, keyO (entAt (tl T) (some i)) = ek := ⟨_, rfl⟩
    obtain ⟨ev, hev⟩ : ∃ ev, valO (entAt (tl T) (some i)) = ev := ⟨_, rfl⟩
    obtain ⟨ef, hef⟩ : ∃ ef, (entAt (tl T) (some i)).isSome = ef := ⟨_, rfl⟩
    rw [hek, hev, hef]
    have HE : Hid (ansV (entAt (tl T) (some i)) = .tuple #[.agg #[.string ek, .string ev], .bool ef]) := Lib.hid (by unfold ansV ansE; rw [hek, hev, hef])
    have HBx := Lib.hid (cells_set (cells_set HR5.out 0 (.string ek)) 1 (.string ev))
    have HG := Lib.hid ((HB5.out.setCell (p := ⟨w.heap.size, 0, none⟩) (Nat.le_refl _) (.string ek)).setCell (p := ⟨w.heap.size, 1, none⟩) (Nat.le_refl _) (.string ev))
    clear hek hev hef
    refine Dc.wpSegs_more ?_
    simp only [Dc.pick, List.getElem?_cons_zero, List.getElem?_cons_succ]
    repeat (first | go_big_quiet_step (fail) | quiet_step (fail))
    refine wpQuiet_nil ?_
    refine Dc.wpOp_heavy rfl (by rfl) (fun K hK => ?_)
    go_simp
    refine hK _ _ (fun h => absurd rfl h) ?_
    clear hK K
    refine Dc.wpSegs_last ?_
    simp only [Dc.pick, List.getElem?_cons_zero, List.getElem?_cons_succ]
    repeat (first | go_big_quiet_step (fail) | quiet_step (fail))
    refine wpQuiet_nil ?_
    go_wp2
    refine bodyPost_ret (v := .tuple #[.agg #[.string ek, .string ev], .bool ef]) ?_ rfl ⟨by rw [HE.out], HG.out⟩
    have k0 := cell_row HBx.out 0 (.string ek) rfl
    have k1 := cell_row HBx.out 1 (.string ev) rfl
    simp [results, Try.results20, go_sem, k0, k1]


theorem curSeek_nil (w : World) (key : ByteArray) : Calls Try.prog 15 #[.pointer none, .string key] w fun e w' => e = .returned (.bool false) ∧ Below w.heap.size w w' := by
  go_enter Try.func15, Try.ntmps15
  go_wp2
  go_ret
  exact ⟨rfl, Below.refl _ _⟩
theorem curLast_nil (w : World) : Calls Try.prog 14 #[.pointer none] w fun e w' => e = .returned (.bool false) ∧ Below w.heap.size w w' := by
  go_enter Try.func14, Try.ntmps14
  go_wp2
  go_ret
  exact ⟨rfl, Below.refl _ _⟩
theorem curFirst_nil (w : World) : Calls Try.prog 12 #[.pointer none] w fun e w' => e = .returned (.bool false) ∧ Below w.heap.size w w' := by
  go_enter Try.func12, Try.ntmps12
  go_wp2_with fail
  refine (curSeek_nil w ByteArray.empty).mono ?_
  rintro e w1 ⟨rfl, hb⟩
  have HB := Lib.hid hb
  clear hb
  go_wp2
  go_ret
  exact ⟨rfl, HB.out⟩
end Go.Proofs.Ytkooaechcbopnaa
