/-
  The contracts of the ledger's hold, Commit and Reset, of a ledger and of none; conditions stand at each.
-/
import Derived.Test.YtpchihgdcpbjiaaLedHold
import Derived.Test.YtpchihgdcpbjiaaDrawnX
namespace Go.Proofs.Ytpchihgdcpbjiaa
open Go.RowKit Go.Sort
set_option linter.unusedVariables false
set_option linter.unusedSimpArgs false

/-- An array is loaded in a statement that draws its order. -/
theorem wq_load_marks {ops : Array Oper} {C : World → Prop} {Q : Act → Prop} {rest : List Oper} {op : Oper} {a : Act} (hgd : op.guard = none) (x : Operand) (ho : op.op = .load 48 x)
    (b q : Nat) (hx : a.eval x = .pointer (some ⟨b, q, none⟩)) {f : Nat → Bool} (hc : ∀ w, C w → w.rangeAt b q (bl f)) (h : wpQuiet Try.prog ops C Q rest (a.put op.dst (.agg (ba f)))) : wpQuiet Try.prog ops C Q (op :: rest) a := by
  refine wpQuiet_step fun K hK => ?_
  have hw : Region.wanted op (yielded ops a.tmps) = true := by unfold Region.wanted; rw [hgd]
  rw [if_pos hw]
  refine ⟨_, fun w hC => ?_, hK _ h⟩
  unfold Oper.quietAt execOp
  simp only [ho, hx, Instr.loadAt, Instr.sureAddr, Sem.run_bind, Sem.run_pure, Result.andThen_ok, run_loadVar_mid w b q 48 (bl f) _ (hc w hC) Try.underlying48 rfl (minfo_bl f)]
  exact ⟨rfl, rfl⟩
theorem wp_store_marks {op : Oper} {a : Act} {w : World} {K : Act → World → Prop} {Q : Exit → Act → World → Prop} (x y : Operand) (ho : op.op = .store 48 x y)
    (b q : Nat) (f : Nat → Bool) (hx : a.eval x = .pointer (some ⟨b, q, none⟩)) (hy : a.eval y = .agg (ba f)) (ht : w.there b q (ba f).size) (h : K (a.put op.dst undef) (w.setCells b q (ba f).toList)) : op.wp Try.prog a w K Q :=
  wp_store_mid 48 x y ho b q (ba f) hx hy ht (minfo_arr f) (all_oneCell_toArray (bl_one f)) h
theorem but_cells {w : World} {b q : Nat} {vs : List Value} {bs : List Nat} (hb : b ∈ bs) : Dc.But bs w (w.setCells b q vs) := ⟨by rw [(setCells_same b vs q w).2.2.2]; exact Nat.le_refl _, fun k _ hn => heap_setCells b vs q w k fun e => hn (e ▸ hb)⟩

set_option maxRecDepth 100000 in
set_option maxHeartbeats 2000000 in
theorem ldHold_any {w : World} {b n : Nat} {o v t : Nat → Bool} (hd : Led w b n o v t) (f g : Nat → Bool) :
    Calls Try.prog 25 #[.pointer (some ⟨b, 0, none⟩), .agg (ba f), .agg (ba g)] w fun e w' => e = .returned (.tuple #[]) ∧ Led w' b n f g noMark ∧ Keep (fun i => i = b) w w' := by
  have hb := hd.lt
  obtain ⟨W, hW⟩ : ∃ W, W = ((w.alloc (.cells (ba f) 48)).alloc (.cells (ba g) 48)).drew := ⟨_, rfl⟩
  have hbW : Below w.heap.size w W := by rw [hW]; exact (((Below.refl _ _).alloc (Nat.le_refl _) _).alloc (by simp) _).drew
  have e1 : (w.alloc (.cells (ba f) 48)).heap.size = w.heap.size + 1 := by simp
  have hg1 : W.heap[w.heap.size]? = some (.cells (ba f) 48 (0, 0)) := by
    rw [hW]
    show ((w.alloc (.cells (ba f) 48)).alloc (.cells (ba g) 48)).heap[w.heap.size]? = _
    rw [Below.heap_alloc _ _ _ (by simp)]
    exact heap_alloc_new w _
  have hg2 : W.heap[w.heap.size + 1]? = some (.cells (ba g) 48 (0, 0)) := by
    rw [hW]
    show ((w.alloc (.cells (ba f) 48)).alloc (.cells (ba g) 48)).heap[w.heap.size + 1]? = _
    have := heap_alloc_new (w.alloc (.cells (ba f) 48)) (.cells (ba g) 48 (0, 0))
    rwa [e1] at this
  have HW := Lib.hid hW
  have HDW := Lib.hid (hd.below hbW)
  have HK := Lib.hid (Keep.of_below (F := fun i => i = b) hbW)
  have HR1 := Lib.hid (show ∀ w', (∃ p : Dc.Past [b] W, w' = p.val) → w'.rangeAt w.heap.size 0 (bl f) from fun w' ⟨p, e⟩ => by
    subst e
    exact ba_range ((p.ok.2 _ (lt_of_block hg1) (by simp; omega)).trans hg1))
  have HR2 := Lib.hid (show ∀ w', (∃ p : Dc.Past [b] W, w' = p.val) → w'.rangeAt (w.heap.size + 1) 0 (bl g) from fun w' ⟨p, e⟩ => by
    subst e
    exact ba_range ((p.ok.2 _ (lt_of_block hg2) (by simp; omega)).trans hg2))
  clear hW hd hbW hg1 hg2 e1 hb
  go_enter Try.func25, Try.ntmps25
  go_wp2
  refine Dc.wp_region_segs 9 [b] [([0, 1, 2, 3, 4, 5], 6), ([7, 8], 9)] [] (by kernel_rfl) (by kernel_rfl) (by kernel_rfl) (by kernel_rfl) (by kernel_rfl) (by intro c a d v w h; cases d <;> exact h) ?_
  rw [← HW.out]
  refine Dc.wpSegs_more ?_
  simp only [Dc.pick, List.getElem?_cons_zero, List.getElem?_cons_succ]
  repeat (first | (refine wq_load_marks rfl (.tmp 4) rfl w.heap.size 0 rfl HR1.out ?_) | (refine wq_load_marks rfl (.tmp 5) rfl (w.heap.size + 1) 0 rfl HR2.out ?_) | go_big_quiet_step (fail) | quiet_step (fail))
  refine wpQuiet_nil ?_
  refine Dc.wpOp_heavy rfl (by rfl) (fun K hK => ?_)
  refine wp_store_marks (.tmp 11) (.tmp 8) rfl b 1 f rfl rfl (HDW.out.there (by omega) f) ?_
  refine hK _ _ (fun _ => but_cells (by simp)) ?_
  have HD1 := Lib.hid (HDW.out.lay1 f)
  have HK1 := Lib.hid (HK.out.cells (b := b) (o := 1) (vs := (ba f).toList) (.inl rfl))
  clear hK K HDW HK HR1 HR2
  generalize W.setCells b 1 (ba f).toList = W1 at HD1 HK1 ⊢
  refine Dc.wpSegs_more ?_
  simp only [Dc.pick, List.getElem?_cons_zero, List.getElem?_cons_succ]
  repeat (first | go_big_quiet_step (fail) | quiet_step (fail))
  refine wpQuiet_nil ?_
  refine Dc.wpOp_heavy rfl (by rfl) (fun K hK => ?_)
  refine wp_store_marks (.tmp 13) (.tmp 9) rfl b 513 g rfl rfl (HD1.out.there (by omega) g) ?_
  refine hK _ _ (fun _ => but_cells (by simp)) ?_
  have HD2 := Lib.hid (HD1.out.lay2 g)
  have HK2 := Lib.hid (HK1.out.cells (b := b) (o := 513) (vs := (ba g).toList) (.inl rfl))
  clear hK K HD1 HK1
  generalize W1.setCells b 513 (ba g).toList = W2 at HD2 HK2 ⊢
  refine Dc.wpSegs_last ?_
  simp only [Dc.pick]
  refine wpQuiet_nil ?_
  go_wp2_with fail
  refine (ldAbort_any HD2.out).mono ?_
  rintro e w3 ⟨rfl, hd3, hk3⟩
  go_wp2
  go_end0
  exact ⟨rfl, hd3, HK2.out.trans hk3⟩

theorem ldCommit_nil (v : Value) (w : World) : Calls Try.prog 14 #[.pointer none, v] w fun e w' => e = .returned (.tuple #[]) ∧ w' = w := by
  go_enter Try.func14, Try.ntmps14
  go_wp2
  refine bodyPost_ret (results_none rfl _ _ _) rfl ?_
  exact ⟨rfl, by trivial⟩
theorem ldReset_nil (v u : Value) (w : World) : Calls Try.prog 18 #[.pointer none, v, u] w fun e w' => e = .returned (.tuple #[]) ∧ w' = w := by
  go_enter Try.func18, Try.ntmps18
  go_wp2
  refine bodyPost_ret (results_none rfl _ _ _) rfl ?_
  exact ⟨rfl, by trivial⟩
set_option maxRecDepth 100000 in
set_option maxHeartbeats 2000000 in
theorem ldReset_any {w : World} {b n : Nat} {o v t : Nat → Bool} (hd : Led w b n o v t) {A C : Option Addr} {m c k d : Nat} {l r : List Int} (ha : ArgI w A m c l) (hc : ArgI w C k d r) :
    Calls Try.prog 18 #[.pointer (some ⟨b, 0, none⟩), .slice A m c, .slice C k d] w fun e w' => e = .returned (.tuple #[]) ∧ Led w' b n (memB n l) (memB n r) noMark ∧ Keep (fun i => i = b) w w' := by
  have HD := Lib.hid hd
  have HA := Lib.hid ha
  have HC := Lib.hid hc
  clear hd ha hc
  go_enter Try.func18, Try.ntmps18
  go_wp2_with fail
  refine (ldMarked_any HD.out HA.out).mono ?_
  rintro e w1 ⟨rfl, hb1⟩
  have HB1 := Lib.hid hb1
  clear hb1
  go_wp2_with fail
  refine (ldMarked_any (HD.out.below HB1.out) (HC.out.below HB1.out)).mono ?_
  rintro e w2 ⟨rfl, hb2⟩
  have HB2 := Lib.hid (bthen HB1.out hb2)
  clear hb2
  go_wp2_with fail
  refine (ldHold_any (HD.out.below HB2.out) _ _).mono ?_
  rintro e w3 ⟨rfl, hd3, hk3⟩
  go_wp2
  go_end0
  exact ⟨rfl, hd3, (Keep.of_below HB2.out).trans hk3⟩
set_option maxRecDepth 100000 in
set_option maxHeartbeats 2000000 in
theorem ldCommit_any {w : World} {b n : Nat} {o v t : Nat → Bool} (hd : Led w b n o v t) {A : Option Addr} {m c : Nat} {l : List Int} (ha : ArgI w A m c l) :
    Calls Try.prog 14 #[.pointer (some ⟨b, 0, none⟩), .slice A m c] w fun e w' => e = .returned (.tuple #[]) ∧ Led w' b n v (memB n l) noMark ∧ Keep (fun i => i = b) w w' := by
  have HA := Lib.hid ha
  have HD := Lib.hid hd
  obtain ⟨W, hW⟩ : ∃ W, W = w.drew := ⟨_, rfl⟩
  have hbW : Below w.heap.size w W := by rw [hW]; exact (Below.refl _ _).drew
  have HW := Lib.hid hW
  have HDW := Lib.hid (hd.below hbW)
  have HAW := Lib.hid (ha.below hbW)
  have HK := Lib.hid (Keep.of_below (F := fun i => i = b) hbW)
  have HR := Lib.hid (show ∀ w', (∃ p : Dc.Past [] W, w' = p.val) → w'.rangeAt b 513 (bl v) from fun w' ⟨p, e⟩ => by
    subst e
    have h' : Led p.val b n o v t := HDW.out.block (p.ok.2 _ HDW.out.lt (by simp))
    exact h'.range fun i hi => h'.cv hi)
  clear hW hbW hd ha
  go_enter Try.func14, Try.ntmps14
  go_wp2
  refine Dc.wp_region_segs 8 [] [([0, 1, 2, 3, 4, 5, 6], 7), ([], 8)] [] (by kernel_rfl) (by kernel_rfl) (by kernel_rfl) (by kernel_rfl) (by kernel_rfl) (by intro c a d v w h; cases d <;> exact h) ?_
  rw [← HW.out]
  refine Dc.wpSegs_more ?_
  simp only [Dc.pick, List.getElem?_cons_zero, List.getElem?_cons_succ]
  repeat (first | (refine wq_load_marks rfl (.tmp 9) rfl b 513 rfl HR.out ?_) | go_big_quiet_step (fail) | quiet_step (fail))
  refine wpQuiet_nil ?_
  refine Dc.wpOp_heavy rfl (by rfl) (fun K hK => ?_)
  go_simp
  refine (ldMarked_any HDW.out HAW.out).mono ?_
  rintro e w1 ⟨rfl, hb1⟩
  refine hK _ _ (fun _ => Dc.But.of_below hb1) ?_
  have HD1 := Lib.hid (HDW.out.below hb1)
  have HK1 := Lib.hid (HK.out.trans (Keep.of_below hb1))
  clear hK K HDW HAW HK HR hb1
  refine Dc.wpSegs_more ?_
  simp only [Dc.pick]
  refine wpQuiet_nil ?_
  refine Dc.wpOp_heavy rfl (by rfl) (fun K hK => ?_)
  go_simp
  refine (ldHold_any HD1.out _ _).mono ?_
  rintro e w2 ⟨rfl, hd2, hk2⟩
  refine hK _ _ (fun h => absurd rfl h) ?_
  clear hK K
  refine Dc.wpSegs_last ?_
  simp only [Dc.pick]
  refine wpQuiet_nil ?_
  go_wp2
  go_end0
  exact ⟨rfl, hd2, HK1.out.trans hk2⟩

end Go.Proofs.Ytpchihgdcpbjiaa
