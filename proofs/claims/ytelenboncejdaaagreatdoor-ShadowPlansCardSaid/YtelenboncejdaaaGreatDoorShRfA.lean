/-
  Several texts in one: ShRfMem, ShRfCut, ShRfLeaf. Each says what it proves, and under which conditions.
-/
import Derived.Test.YtelenboncejdaaaGreatDoorShTell
import Derived.Great.BuildSlice

/-
  The reference's plan in memory; the contracts of its take and write; conditions stand at each.
-/
namespace Go.Proofs.YtelenboncejdaaaGreatDoor
open Go.RowKit Go.Sort
open Rt (Fx Stp)
set_option linter.unusedVariables false
set_option linter.unusedSimpArgs false

/-- A write of the reference: the page's number, its text. -/
def pcRW (x : Int × List UInt8) : List Value := [.int .i64 x.1, .string (mk x.2)]
theorem encRW : Enc pcRW 2 := ⟨fun _ => rfl, fun x u hu => by
  simp only [pcRW, List.mem_cons, List.not_mem_nil, or_false] at hu
  rcases hu with rfl | rfl <;> rfl⟩
theorem rwInfo : (Tryz.prog.info? 148).map (fun i => (i.zero, i.size, i.bytes)) = some (some (.agg #[.int .i64 0, .string ⟨#[]⟩]), 2, 24) := by kernel_rfl
/-- The reference's plan in a block: what was known, what is known, what is written, the next page. -/
structure RP (W : World) (base pb : Nat) (vo vn vw : Value) (nx : Nat) (Nw : List KN) (ws : List (Int × List UInt8)) : Prop where
  box : W.heap[pb]? = some (.cells #[vo, vn, vw, .int .i64 (nx : Int), .slice none 0 0] 65 (0, 0))
  new : OwnL pcKn 76 2 W base vn Nw
  wr : OwnL pcRW 148 2 W base vw ws
theorem RP.below {W W' : World} {base pb : Nat} {vo vn vw : Value} {nx : Nat} {Nw : List KN} {ws : List (Int × List UInt8)} (h : RP W base pb vo vn vw nx Nw ws) (hb : Below W.heap.size W W') : RP W' base pb vo vn vw nx Nw ws :=
  ⟨(hb.block _ (lt_of_block h.box)).trans h.box, h.new.below hb, h.wr.below hb⟩
/-- What abides while the reference lays its plan. -/
def PstR (w w' : World) : Prop := w.heap.size ≤ w'.heap.size ∧ ∀ (q : Nat) (cs : Array Value) (t : TypeId), w.heap[q]? = some (.cells cs t (0, 0)) → t ≠ 65 → t ≠ 76 → t ≠ 148 → w'.heap[q]? = w.heap[q]?
theorem PstR.of_below {w w' : World} (h : Below w.heap.size w w') : PstR w w' := ⟨h.size, fun q cs t hq _ _ _ => h.block q (lt_of_block hq)⟩
theorem PstR.refl (w : World) : PstR w w := .of_below (Below.refl _ _)
theorem PstR.trans {a b c : World} (h : PstR a b) (k : PstR b c) : PstR a c := ⟨Nat.le_trans h.1 k.1, fun q cs t hq h1 h2 h3 => (k.2 q cs t ((h.2 q cs t hq h1 h2 h3).trans hq) h1 h2 h3).trans (h.2 q cs t hq h1 h2 h3)⟩
theorem PstR.own {α : Type} {f : α → List Value} {k : Nat} {t : TypeId} {w w' : World} {base : Nat} {v : Value} {l : List α} (h : PstR w w') (ho : OwnL f t k w base v l) (h1 : t ≠ 65) (h2 : t ≠ 76) (h3 : t ≠ 148) : OwnL f t k w' base v l :=
  ho.keep fun g hg _ => by
    obtain ⟨cur, hcur⟩ := own_cells ho g hg
    exact h.2 g cur t hcur h1 h2 h3

set_option maxHeartbeats 2000000 in
theorem rfTake_any {wb w : World} {pb nx : Nat} {vo vn vw : Value} {Nw : List KN} {ws : List (Int × List UInt8)} (hb : Below wb.heap.size wb w) (hpb : wb.heap.size ≤ pb) (h : RP w wb.heap.size pb vo vn vw nx Nw ws) (hn : nx ≤ 100000) :
    Calls Tryz.prog 62 #[.pointer (some ⟨pb, 0, none⟩)] w fun e w' => e = .returned (.int .i64 (nx : Int)) ∧ RP w' wb.heap.size pb vo vn vw (nx + 1) Nw ws ∧ Below wb.heap.size wb w' ∧ PstR w w' := by
  obtain ⟨ny, hny⟩ : ∃ ny, ny = nx + 1 := ⟨_, rfl⟩
  rw [← hny]
  have hbx := h.box
  have c3 := cell_at hbx 3 (.int .i64 (nx : Int)) rfl
  have f3 := free_at hbx 3
  obtain ⟨w1, hw1⟩ : ∃ w1, w1 = w.setCell ⟨pb, 3, none⟩ (.int .i64 (ny : Int)) := ⟨_, rfl⟩
  have hb1 : w1.heap[pb]? = some (.cells #[vo, vn, vw, .int .i64 (ny : Int), .slice none 0 0] 65 (0, 0)) := by
    rw [hw1]
    exact blk_set hbx 3 _
  have hk1 : ∀ q, q ≠ pb → w1.heap[q]? = w.heap[q]? := fun q hq => by
    rw [hw1]
    exact Below.heap_setCell _ _ _ _ hq
  have hs1 : w1.heap.size = w.heap.size := by rw [hw1]; simp [World.setCell]
  have d3 := cell_at hb1 3 (.int .i64 (ny : Int)) rfl
  have d4 := cell_at hb1 4 (.slice none 0 0) rfl
  have hfin : RP w1 wb.heap.size pb vo vn vw ny Nw ws ∧ Below wb.heap.size wb w1 ∧ PstR w w1 := by
    refine ⟨⟨hb1, h.new.keep fun g hg _ => hk1 g fun e => ?_, h.wr.keep fun g hg _ => hk1 g fun e => ?_⟩, ⟨by rw [hw1]; exact hb.os, by rw [hw1]; exact hb.tape, by rw [hw1]; exact hb.output, by rw [hs1]; exact hb.size, fun i hi => (hk1 i (by omega)).trans (hb.block i hi)⟩, by rw [hs1]; exact Nat.le_refl _, fun q cs t hq h1 _ _ => hk1 q fun e => ?_⟩
    · obtain ⟨cur, hc⟩ := own_cells h.new g hg
      rw [e, hbx] at hc
      cases hc
    · obtain ⟨cur, hc⟩ := own_cells h.wr g hg
      rw [e, hbx] at hc
      cases hc
    · rw [e, hbx] at hq
      cases hq
      exact h1 rfl
  have HFIN := Lib.hid hfin
  have HW := Lib.hid hw1
  have hcast : ((nx : Int) + 1) = (ny : Int) := by omega
  have hsub : ((ny : Int) - 1) = (nx : Int) := by omega
  have hny0 : ¬ ((ny : Int) ≤ 0) := by omega
  have hd : decide ((0 : Int) ≥ (ny : Int)) = false := decide_eq_false (by omega)
  clear h hbx hb1 hk1 hs1 hw1 hb hfin hny
  go_enter Tryz.func62, Tryz.ntmps62
  go_wp2_with fail
  rw [← HW.out]
  go_quiet (fail)
  go_wp2
  go_ret
  have hdr := below_drewN (Below.refl w1.heap.size w1)
  exact ⟨rfl, HFIN.out.1.below (hdr _), HFIN.out.2.1.trans ((hdr _).mono HFIN.out.2.1.size), HFIN.out.2.2.trans (PstR.of_below (hdr _))⟩

theorem RP.step {wb w W w2 w4 : World} {pb nx : Nat} {vo vn vw vw' : Value} {Nw : List KN} {ws : List (Int × List UInt8)} {x : Int × List UInt8} (hb : Below wb.heap.size wb w) (hpb : wb.heap.size ≤ pb) (h : RP w wb.heap.size pb vo vn vw nx Nw ws) (h2 : Below w.heap.size w w2)
    (ho : OwnL pcRW 148 2 w4 wb.heap.size vw' (ws ++ [x])) (hg : (w2.alloc (.cells (pcRW x).toArray 148)).grownBy w4 vw.ownBlock) :
    (RP (w4.setCell ⟨pb, 2, none⟩ vw') wb.heap.size pb vo vn vw' nx Nw (ws ++ [x]) ∧ Below wb.heap.size wb (w4.setCell ⟨pb, 2, none⟩ vw') ∧ PstR w (w4.setCell ⟨pb, 2, none⟩ vw')) ∧ w4.heap[pb]? = some (.cells #[vo, vn, vw, .int .i64 (nx : Int), .slice none 0 0] 65 (0, 0)) := by
  have hba : Below w2.heap.size w2 (w2.alloc (.cells (pcRW x).toArray 148)) := (Below.refl _ _).alloc (Nat.le_refl _) _
  have hb2 := bthen h2 hba
  have hk4 : ∀ q, q < w.heap.size → vw.ownBlock ≠ some q → w4.heap[q]? = w.heap[q]? := fun q hq hne => (hg.block q (Nat.lt_of_lt_of_le hq hb2.size) fun e => hne e.symm).trans (hb2.block q hq)
  have hpw : vw.ownBlock ≠ some pb := fun e => by
    obtain ⟨cur, hc⟩ := own_cells h.wr pb e
    rw [h.box] at hc
    cases hc
  have hb4 := (hk4 pb (lt_of_block h.box) hpw).trans h.box
  have hpw' : vw'.ownBlock ≠ some pb := fun e => by
    obtain ⟨cur, hc⟩ := own_cells ho pb e
    rw [hb4] at hc
    cases hc
  have hz5 : (w4.setCell ⟨pb, 2, none⟩ vw').heap.size = w4.heap.size := by simp [World.setCell]
  have hk5 : ∀ q, q < w.heap.size → q ≠ pb → vw.ownBlock ≠ some q → (w4.setCell ⟨pb, 2, none⟩ vw').heap[q]? = w.heap[q]? := fun q hq h1 h2 => by
    rw [Below.heap_setCell _ _ _ _ h1]
    exact hk4 q hq h2
  have hsz := Nat.le_trans hb2.size hg.size
  refine ⟨⟨⟨blk_set hb4 2 vw', h.new.keep fun g hg2 hl => hk5 g hl (fun e => ?_) fun e => ?_, ho.keep fun g hg2 _ => Below.heap_setCell _ _ _ _ fun e => hpw' (by rw [hg2]; exact congrArg some e)⟩,
    ⟨hg.os.trans (hb2.os.trans hb.os), hg.tape.trans (hb2.tape.trans hb.tape), hg.output.trans (hb2.output.trans hb.output), by rw [hz5]; exact Nat.le_trans hb.size hsz, fun i hi => (hk5 i (Nat.lt_of_lt_of_le hi hb.size) (by omega) fun e => ?_).trans (hb.block i hi)⟩, by rw [hz5]; exact hsz, fun q cs t hq h1 h2 h3 => hk5 q (lt_of_block hq) (fun e => ?_) fun e => ?_⟩, hb4⟩
  · obtain ⟨cur, hc⟩ := own_cells h.new g hg2
    rw [e, h.box] at hc
    cases hc
  · obtain ⟨cur, hc⟩ := own_cells h.new g hg2
    obtain ⟨cur2, hc2⟩ := own_cells h.wr g e
    rw [hc] at hc2
    cases hc2
  · have := h.wr.at_block i e
    omega
  · rw [e, h.box] at hq
    cases hq
    exact h1 rfl
  · obtain ⟨cur, hc⟩ := own_cells h.wr q e
    rw [hq] at hc
    cases hc
    exact h3 rfl

set_option maxHeartbeats 4000000 in
set_option maxRecDepth 100000 in
theorem rfWrite_any {wb w : World} {pb nx : Nat} {i : Int} {vo vn vw : Value} {Nw : List KN} {ws : List (Int × List UInt8)} (x : PP) (A B : Option Addr) (a b : Nat) (hb : Below wb.heap.size wb w) (hpb : wb.heap.size ≤ pb) (h : RP w wb.heap.size pb vo vn vw nx Nw ws) (hws : ws.length ≤ 100000)
    (hA : Ls pcC w A x.cells) (hB : Ls pcK w B x.kids) (hbd : Bd x) (hok : okPage x) :
    Calls Tryz.prog 63 #[.pointer (some ⟨pb, 0, none⟩), .int .i64 i, pageV x A a B b] w fun e w' => e = .returned (.tuple #[]) ∧ ∃ vw', RP w' wb.heap.size pb vo vn vw' nx Nw (ws ++ [(i, encL x)]) ∧ Below wb.heap.size wb w' ∧ PstR w w' := by
  obtain ⟨xb, hxb⟩ : ∃ xb, xb = w.heap.size := ⟨_, rfl⟩
  obtain ⟨nc, hnc⟩ : ∃ nc, nc = x.cells.length := ⟨_, rfl⟩
  obtain ⟨nk, hnk⟩ : ∃ nk, nk = x.kids.length := ⟨_, rfl⟩
  obtain ⟨w1, hw1⟩ : ∃ w1, w1 = w.alloc (.cells #[.int .i64 x.kind, .slice A nc a, .slice B nk b, .string x.piece, .int .i64 x.next] 142) := ⟨_, rfl⟩
  have hb1 : Below w.heap.size w w1 := by rw [hw1]; exact (Below.refl _ _).alloc (Nat.le_refl _) _
  have hx1 : w1.heap[xb]? = some (.cells #[.int .i64 x.kind, .slice A nc a, .slice B nk b, .string x.piece, .int .i64 x.next] 142 (0, 0)) := by rw [hw1, hxb]; exact heap_alloc_new _ _
  obtain ⟨W, hW⟩ : ∃ W, W = w1.drew := ⟨_, rfl⟩
  have hdW : Below w1.heap.size w1 W := by rw [hW]; exact ⟨rfl, rfl, rfl, Nat.le_refl _, fun k _ => rfl⟩
  have hbW := bthen hb1 hdW
  have hxW := (hdW.block _ (lt_of_block hx1)).trans hx1
  have hRW := h.below hbW
  have hpv : pageV x A a B b = .agg #[.int .i64 x.kind, .slice A nc a, .slice B nk b, .string x.piece, .int .i64 x.next] := by rw [hnc, hnk]; rfl
  have hby := refBytes_any x A B a b W (hA.below hbW) (hB.below hbW) hbd hok
  rw [hpv] at hby ⊢
  obtain ⟨bs, hbs⟩ : ∃ bs : List Nat, bs = vw.ownBlock.toList := ⟨_, rfl⟩
  have hn1 : pb ∉ bs := fun hx => by
    obtain ⟨cur, hc⟩ := own_cells hRW.wr pb (by rw [hbs] at hx; simpa using hx)
    rw [hRW.box] at hc
    cases hc
  have hn2 : xb ∉ bs := fun hx => by
    obtain ⟨cur, hc⟩ := own_cells hRW.wr xb (by rw [hbs] at hx; simpa using hx)
    rw [hxW] at hc
    cases hc
  obtain ⟨Aw, cw, hvw, _, _⟩ := hRW.wr.form
  obtain ⟨nw, hnw⟩ : ∃ nw, nw = ws.length := ⟨_, rfl⟩
  rw [← hnw] at hvw
  have q2 : ∀ p' : Dc.Past bs W, p'.val.cell? ⟨pb, 2, none⟩ = some (.slice Aw nw cw) := fun p' => (p'.ok.cell (lt_of_block hRW.box) hn1).trans (by rw [← hvw]; exact cell_at hRW.box 2 vw rfl)
  have r0 : ∀ p' : Dc.Past bs W, p'.val.cell? ⟨xb, 0, none⟩ = some (.int .i64 x.kind) := fun p' => (p'.ok.cell (lt_of_block hxW) hn2).trans (cell_at hxW 0 _ rfl)
  have r1 : ∀ p' : Dc.Past bs W, p'.val.cell? ⟨xb, 1, none⟩ = some (.slice A nc a) := fun p' => (p'.ok.cell (lt_of_block hxW) hn2).trans (cell_at hxW 1 _ rfl)
  have r2 : ∀ p' : Dc.Past bs W, p'.val.cell? ⟨xb, 2, none⟩ = some (.slice B nk b) := fun p' => (p'.ok.cell (lt_of_block hxW) hn2).trans (cell_at hxW 2 _ rfl)
  have r3 : ∀ p' : Dc.Past bs W, p'.val.cell? ⟨xb, 3, none⟩ = some (.string x.piece) := fun p' => (p'.ok.cell (lt_of_block hxW) hn2).trans (cell_at hxW 3 _ rfl)
  have r4 : ∀ p' : Dc.Past bs W, p'.val.cell? ⟨xb, 4, none⟩ = some (.int .i64 x.next) := fun p' => (p'.ok.cell (lt_of_block hxW) hn2).trans (cell_at hxW 4 _ rfl)
  have HBS : Hid (∀ q, q ∉ bs → vw.ownBlock ≠ some q) := Lib.hid (fun q hq hx => hq (by rw [hbs]; simpa using hx))
  have HBY := Lib.hid hby
  have H := Lib.hid h
  have HB := Lib.hid hb
  have HBW := Lib.hid hbW
  have HW := Lib.hid hW
  have HW1 := Lib.hid hw1
  have HXB := Lib.hid hxb
  have HNW := Lib.hid hnw
  have HVW := Lib.hid hvw
  clear hb1 hx1 hdW hxW hRW hpv hby hbs hn1 hn2 h hb hbW hW hw1 hxb hnc hnk hnw hvw hA hB hbd hok
  go_enter Tryz.func63, Tryz.ntmps63
  go_wp2_with fail
  rw [← HW1.out, ← HXB.out]
  refine Dc.wp_region_segs 13 bs [([0, 1, 2, 3, 4, 5, 6], 7), ([8], 9), ([], 10), ([11, 12], 13)] [] (by kernel_rfl) (by kernel_rfl) (by kernel_rfl) (by kernel_rfl) (by kernel_rfl) (by intro c a d v w h; cases d <;> exact h) ?_
  rw [← HW.out]
  refine Dc.wpSegs_more ?_
  simp only [Dc.pick, List.getElem?_cons_zero, List.getElem?_cons_succ]
  repeat (first | go_big_quiet_step (fail) | quiet_step (fail))
  refine wpQuiet_nil ?_
  refine Dc.wpOp_heavy rfl (by rfl) (fun Q hQ => ?_)
  go_simp
  refine HBY.out.mono ?_
  rintro e w2 ⟨rfl, hb2⟩
  refine hQ _ _ (fun _ => Dc.But.of_below hb2) ?_
  clear hQ Q q2 r0 r1 r2 r3 r4
  have hb02 := bthen HBW.out hb2
  have hba : Below w2.heap.size w2 (w2.alloc (.cells (pcRW (i, encL x)).toArray 148)) := (Below.refl _ _).alloc (Nat.le_refl _) _
  obtain ⟨vw', w4, hr4, ho4, hg4, _⟩ := run_append_at encRW 63 148 63 _ _ ⟨_, Tryz.underlying63, rfl⟩ rwInfo rfl (by omega) (by omega) ((H.out.wr.below hb02).below hba) (i, encL x) (heap_alloc_new w2 _) (by omega) (Nat.le_trans HB.out.size (Nat.le_trans hb02.size hba.size))
  obtain ⟨hfin, hb4⟩ := RP.step (W := w2) HB.out hpb H.out hb02 ho4 hg4
  obtain ⟨A4, c4, hv4, _, _⟩ := ho4.form
  obtain ⟨n4, hn4⟩ : ∃ n4, n4 = (ws ++ [(i, encL x)]).length := ⟨_, rfl⟩
  rw [← hn4] at hv4
  rw [HVW.out] at hr4 hb4
  have d4 := cell_at hb4 2 (.slice Aw nw cw) rfl
  have f4 := free_at hb4 2
  have HR4 := Lib.hid hr4
  have HG4 := Lib.hid hg4
  have HBA := Lib.hid hba
  have HFIN := Lib.hid hfin
  have HV4 := Lib.hid hv4
  obtain ⟨tx, htx⟩ : ∃ tx, tx = mk (encL x) := ⟨_, rfl⟩
  have hpx : (pcRW (i, encL x)).toArray = #[.int .i64 i, .string tx] := by rw [htx]; rfl
  rw [hpx] at HR4 HG4 HBA
  rw [← htx]
  clear hr4 ho4 hg4 hba hfin hb4 hn4 hv4 hb2 hb02 hpx htx
  refine Dc.wpSegs_more ?_
  simp only [Dc.pick, List.getElem?_cons_zero, List.getElem?_cons_succ]
  repeat (first | go_big_quiet_step (fail) | quiet_step (fail))
  refine wpQuiet_nil ?_
  refine Dc.wpOp_heavy rfl (by rfl) (fun Q hQ => ?_)
  go_simp
  refine hQ _ _ (fun _ => Dc.But.of_below HBA.out) ?_
  clear hQ Q
  refine Dc.wpSegs_more ?_
  simp only [Dc.pick]
  refine wpQuiet_nil ?_
  refine Dc.wpOp_heavy rfl (by rfl) (fun Q hQ => ?_)
  refine oper_append_ran (.tmp 10) (.tmp 15) 63 rfl _ _ _ _ rfl rfl HR4.out ?_
  refine hQ _ _ (fun _ => ⟨HG4.out.size, fun q hq hn => HG4.out.block q hq fun e => HBS.out q hn (by rw [← e])⟩) ?_
  clear hQ Q
  refine Dc.wpSegs_more ?_
  simp only [Dc.pick, List.getElem?_cons_zero, List.getElem?_cons_succ]
  repeat (first | go_big_quiet_step (fail) | quiet_step (fail))
  refine wpQuiet_nil ?_
  refine Dc.wpOp_heavy rfl (by rfl) (fun Q hQ => ?_)
  rw [HV4.out] at HFIN ⊢
  go_simp
  refine hQ _ _ (fun h => absurd rfl h) ?_
  clear hQ Q d4 f4
  refine Dc.wpSegs_last ?_
  simp only [Dc.pick]
  refine wpQuiet_nil ?_
  go_wp2
  refine bodyPost_end (results_none rfl _ _ _) rfl ?_
  exact ⟨rfl, _, HFIN.out⟩

end Go.Proofs.YtelenboncejdaaaGreatDoor

/-
  The reference's Cut, whose answer is a row of its own; pieces as drafts, the last one first; conditions stand at each.
-/
namespace Go.Proofs.YtelenboncejdaaaGreatDoor
open Go.RowKit Go.Sort
open Rt (Fx Stp)
set_option linter.unusedVariables false
set_option linter.unusedSimpArgs false

theorem ownL_new {α : Type} {f : α → List Value} {k : Nat} (he : Enc f k) (t : TypeId) (w : World) (l : List α) (hl : l.length ≤ 1000) (hk : k ≤ 100) : OwnL f t k (w.alloc (.cells (l.flatMap f).toArray t)) w.heap.size (.slice (some ⟨w.heap.size, 0, none⟩) l.length l.length) l := by
  have h1 : l.length * k ≤ 1000 * 100 := Nat.mul_le_mul hl hk
  exact ⟨he.flen l, .inr ⟨w.heap.size, l.length, (l.flatMap f).toArray, rfl, Nat.le_refl _, heap_alloc_new w _, Nat.le_refl _, by simp only [maxLen]; omega, by simp [he.flen], by rw [List.take_of_length_le (by rw [he.flen]; exact Nat.le_refl _)]⟩⟩
set_option maxHeartbeats 800000 in
theorem rfCut_any (s : ByteArray) (w : World) (hs : s.size ≤ 140737488351232) : Calls Tryz.prog 84 #[.string s] w fun e w' => ∃ v, e = .returned v ∧ OwnS w' w.heap.size v (cutL s) ∧ Below w.heap.size w w' := by
  by_cases h1 : s.size ≤ 24
  · have HC := Lib.hid (cutL_none (s := s) fun h => by have := h.1; omega)
    go_enter Tryz.func84, Tryz.ntmps84
    go_wp2
    go_ret
    rw [HC.out]
    exact ⟨_, rfl, OwnL.nil_ _ _ _, Below.refl _ _⟩
  by_cases h4 : 400 < s.size
  · have HC := Lib.hid (cutL_none (s := s) fun h => by have := h.2; omega)
    go_enter Tryz.func84, Tryz.ntmps84
    go_wp2
    go_ret
    rw [HC.out]
    exact ⟨_, rfl, OwnL.nil_ _ _ _, Below.refl _ _⟩
  have hl : Long s.size := ⟨by omega, by omega⟩
  by_cases h2 : s.size ≤ 240
  · have HC := Lib.hid (cutL_one hl h2)
    clear hl
    go_enter Tryz.func84, Tryz.ntmps84
    go_wp2
    go_ret
    rw [HC.out]
    exact ⟨_, rfl, ownL_new strC_enc 9 w [s] (by simp) (by omega), (Below.refl _ _).alloc (Nat.le_refl _) _⟩
  · have HC := Lib.hid (cutL_two hl h2)
    clear hl
    go_enter Tryz.func84, Tryz.ntmps84
    go_wp2
    go_region
    all_goals
      go_wp2
      go_ret
      rw [HC.out]
      exact ⟨_, rfl, ownL_new strC_enc 9 w.drew [s.extract 0 240, s.extract 240 s.size] (by simp) (by omega), ((Below.refl _ _).drew).alloc (Nat.le_refl _) _⟩
theorem chainD_dn {c : List ByteArray} (hc : c.length ≤ 2) (r : List Int) {m d : Nat} (hm : m + d + 1 = c.length) : ∃ s, c[m]? = some s ∧ (chainD c r)[d]? = some (r.getD m 0, chP s (if m + 1 < c.length then r.getD (m + 1) 0 else 0)) := by
  match c, hc with
  | [], _ => simp at hm
  | [a], _ =>
    simp only [List.length_cons, List.length_nil] at hm
    obtain rfl : m = 0 := by omega
    obtain rfl : d = 0 := by omega
    exact ⟨a, rfl, rfl⟩
  | [a, b], _ =>
    simp only [List.length_cons, List.length_nil] at hm
    rcases (show (m = 0 ∧ d = 1) ∨ (m = 1 ∧ d = 0) by omega) with ⟨rfl, rfl⟩ | ⟨rfl, rfl⟩
    · exact ⟨a, rfl, rfl⟩
    · exact ⟨b, rfl, rfl⟩

end Go.Proofs.YtelenboncejdaaaGreatDoor

/-
  The contract of the reference's leaf: the pages that it takes, what it writes; conditions stand at it.
-/
namespace Go.Proofs.YtelenboncejdaaaGreatDoor
open Go.RowKit Go.Sort
open Rt (Fx Stp)
set_option linter.unusedVariables false
set_option linter.unusedSimpArgs false

theorem wr64 {n : Int} {k : Nat} (h : n = (k : Int)) (hk : k ≤ 1000000) : wrap64 n = (k : Int) := by
  subst h
  unfold wrap64
  omega
theorem wrd64 {m : Nat} (h : m ≤ 1000) : wrap64 ((m : Int) - 1) = (m : Int) - 1 := by
  unfold wrap64
  omega
/-- The reference's plan at work. -/
structure RW (wb w W : World) (pb : Nat) (vo vn vw : Value) (nx : Nat) (Nw : List KN) (ws : List (Int × List UInt8)) : Prop where
  rp : RP W wb.heap.size pb vo vn vw nx Nw ws
  bel : Below wb.heap.size wb W
  pst : PstR w W
theorem RW.below {wb w W W' : World} {pb : Nat} {vo vn vw : Value} {nx : Nat} {Nw : List KN} {ws : List (Int × List UInt8)} (h : RW wb w W pb vo vn vw nx Nw ws) (hb : Below W.heap.size W W') : RW wb w W' pb vo vn vw nx Nw ws :=
  ⟨h.rp.below hb, h.bel.trans (hb.mono h.bel.size), h.pst.trans (.of_below hb)⟩
theorem pst_es {w w' : World} {base : Nat} {v : Value} {l : List Ent} (h : PstR w w') (ho : Own w base v l) : Own w' base v l := es_keep ho fun g hg _ => by
  obtain ⟨cur, hc⟩ := es_cells ho g hg
  exact h.2 g cur _ hc (by decide) (by decide) (by decide)
theorem es_own {w : World} {base n c : Nat} {A : Option Addr} {l : List Ent} (h : Own w base (.slice A n c) l) : Es w A l := by
  obtain ⟨A', c', e, _, hl⟩ := h.form
  injection e with e1 e2 e3
  rw [e1]
  exact hl

/-- A row of the call's own grows: the plan stays. -/
theorem RW.grow {α : Type} {f : α → List Value} {k : Nat} {t : TypeId} {wb w W W1 W2 : World} {pb : Nat} {vo vn vw v : Value} {nx : Nat} {Nw : List KN} {ws : List (Int × List UInt8)} {xs : List α} (h : RW wb w W pb vo vn vw nx Nw ws) (hww : wb.heap.size ≤ w.heap.size) (ho : OwnL f t k W w.heap.size v xs) (hb : Below W.heap.size W W1) (hg : W1.grownBy W2 v.ownBlock)
    (h1 : t ≠ 65) (h2 : t ≠ 76) (h3 : t ≠ 148) : RW wb w W2 pb vo vn vw nx Nw ws := by
  have hk : ∀ q, q < W.heap.size → v.ownBlock ≠ some q → W2.heap[q]? = W.heap[q]? := fun q hq hne => (hg.block q (Nat.lt_of_lt_of_le hq hb.size) fun e => hne e.symm).trans (hb.block q hq)
  refine ⟨⟨(hk pb (lt_of_block h.rp.box) fun e => ?_).trans h.rp.box, h.rp.new.keep fun g hg2 hl => hk g hl fun e => ?_, h.rp.wr.keep fun g hg2 hl => hk g hl fun e => ?_⟩, ⟨hg.os.trans (hb.os.trans h.bel.os), hg.tape.trans (hb.tape.trans h.bel.tape), hg.output.trans (hb.output.trans h.bel.output), Nat.le_trans h.bel.size (Nat.le_trans hb.size hg.size), fun i hi => (hk i (Nat.lt_of_lt_of_le hi h.bel.size) fun e => ?_).trans (h.bel.block i hi)⟩, Nat.le_trans h.pst.1 (Nat.le_trans hb.size hg.size), fun q cs t' hq q1 q2 q3 => (hk q (Nat.lt_of_lt_of_le (lt_of_block hq) h.pst.1) fun e => ?_).trans (h.pst.2 q cs t' hq q1 q2 q3)⟩
  · obtain ⟨cur, hc⟩ := own_cells ho pb e
    rw [h.rp.box] at hc
    cases hc
    exact h1 rfl
  · obtain ⟨cur, hc⟩ := own_cells ho g e
    obtain ⟨cur2, hc2⟩ := own_cells h.rp.new g hg2
    rw [hc] at hc2
    cases hc2
    exact h2 rfl
  · obtain ⟨cur, hc⟩ := own_cells ho g e
    obtain ⟨cur2, hc2⟩ := own_cells h.rp.wr g hg2
    rw [hc] at hc2
    cases hc2
    exact h3 rfl
  · have := ho.at_block i e
    omega
  · have := ho.at_block q e
    have := lt_of_block hq
    omega
/-- A block of the call's own is stored to: the plan stays. -/
theorem RW.set {wb w W : World} {pb xb k : Nat} {vo vn vw u : Value} {nx : Nat} {Nw : List KN} {ws : List (Int × List UInt8)} {cs : Array Value} {t : TypeId} (h : RW wb w W pb vo vn vw nx Nw ws) (hww : wb.heap.size ≤ w.heap.size) (hx : W.heap[xb]? = some (.cells cs t (0, 0))) (hge : w.heap.size ≤ xb)
    (h1 : t ≠ 65) (h2 : t ≠ 76) (h3 : t ≠ 148) : RW wb w (W.setCell ⟨xb, k, none⟩ u) pb vo vn vw nx Nw ws := by
  have hk : ∀ q, q ≠ xb → (W.setCell ⟨xb, k, none⟩ u).heap[q]? = W.heap[q]? := fun q hq => Below.heap_setCell _ _ _ _ hq
  have hz : (W.setCell ⟨xb, k, none⟩ u).heap.size = W.heap.size := by simp [World.setCell]
  refine ⟨⟨(hk pb fun e => ?_).trans h.rp.box, h.rp.new.keep fun g hg2 hl => hk g fun e => ?_, h.rp.wr.keep fun g hg2 hl => hk g fun e => ?_⟩, ⟨h.bel.os, h.bel.tape, h.bel.output, by rw [hz]; exact h.bel.size, fun i hi => (hk i (by omega)).trans (h.bel.block i hi)⟩, by rw [hz]; exact h.pst.1, fun q cs' t' hq q1 q2 q3 => (hk q fun e => ?_).trans (h.pst.2 q cs' t' hq q1 q2 q3)⟩
  · rw [← e, h.rp.box] at hx
    cases hx
    exact h1 rfl
  · obtain ⟨cur2, hc2⟩ := own_cells h.rp.new g hg2
    rw [e, hx] at hc2
    cases hc2
    exact h2 rfl
  · obtain ⟨cur2, hc2⟩ := own_cells h.rp.wr g hg2
    rw [e, hx] at hc2
    cases hc2
    exact h3 rfl
  · have := lt_of_block hq
    omega
theorem RW.next {wb w W W' : World} {pb : Nat} {vo vn vw vw' : Value} {nx nx' : Nat} {Nw : List KN} {ws ws' : List (Int × List UInt8)} (h : RW wb w W pb vo vn vw nx Nw ws) (hr : RP W' wb.heap.size pb vo vn vw' nx' Nw ws') (hb : Below wb.heap.size wb W') (hp : PstR W W') : RW wb w W' pb vo vn vw' nx' Nw ws' := ⟨hr, hb, h.pst.trans hp⟩

theorem infoRfC : (Tryz.prog.info? 179).map (fun i => (i.zero, i.size, i.bytes)) = some (some (.agg #[.string ByteArray.empty, .string ByteArray.empty, .int .i64 0, .int .i64 0]), 4, 48) := by kernel_rfl
theorem infoRfK : (Tryz.prog.info? 145).map (fun i => (i.zero, i.size, i.bytes)) = some (some (.agg #[.string ByteArray.empty, .int .i64 0]), 2, 24) := by kernel_rfl
theorem rf_oper_run {o : Oper} {a : Act} {w w' : World} {K : Act → World → Prop} {Q : Exit → Act → World → Prop} (v : Value) (hr : (execOp a.eval o).run Tryz.prog w = .ok (.value v) w') (h : K (a.put o.dst v) w') : o.wp Tryz.prog a w K Q := by
  unfold Oper.wp
  rw [hr]
  exact h
theorem cell_row_run (w : World) (x : PC) : (Instr.buildSlice 139 1 #[(0, .agg (pcC x).toArray)]).run Tryz.prog w = .ok (.slice (some ⟨w.heap.size, 0, none⟩) 1 1) (w.alloc (.cells (pcC x).toArray 179)) := by
  obtain ⟨i0, hi0, hz0, hz1, hz2⟩ := info_parts infoRfC
  refine run_buildSlice (P := Tryz.prog) w 139 179 1 _ _ i0 _ Tryz.underlying139 hi0 hz0 (by rw [hz1]; omega) (by rw [hz1]; omega) ?_
  have h := Great.fill_whole (s := 4) (by omega) [.agg (pcC x).toArray] ((Array.range (1 * i0.size)).map ((Value.agg #[.string ByteArray.empty, .string ByteArray.empty, .int .i64 0, .int .i64 0]).cells[· % (Value.agg #[.string ByteArray.empty, .string ByteArray.empty, .int .i64 0, .int .i64 0]).cells.size]!)) (by simp [Value.cells, pcC]) (by simp [hz1])
  rw [hz1] at h ⊢
  simpa [Value.cells] using h
/-- A page in the making, beside the plan: its box, its cells. -/
structure Lf (wb w W : World) (pb xb : Nat) (vo vn vw vc : Value) (nx : Nat) (Nw : List KN) (ws : List (Int × List UInt8)) (cs : List PC) : Prop where
  rw : RW wb w W pb vo vn vw nx Nw ws
  box : W.heap[xb]? = some (.cells #[.int .i64 1, vc, .slice none 0 0, .string ⟨#[]⟩, .int .i64 0] 142 (0, 0))
  cells : OwnL pcC 179 4 W w.heap.size vc cs
  ge : w.heap.size ≤ xb
theorem Lf.below {wb w W W' : World} {pb xb : Nat} {vo vn vw vc : Value} {nx : Nat} {Nw : List KN} {ws : List (Int × List UInt8)} {cs : List PC} (h : Lf wb w W pb xb vo vn vw vc nx Nw ws cs) (hb : Below W.heap.size W W') : Lf wb w W' pb xb vo vn vw vc nx Nw ws cs :=
  ⟨h.rw.below hb, (hb.block _ (lt_of_block h.box)).trans h.box, h.cells.below hb, h.ge⟩
theorem Lf.next {wb w W W' : World} {pb xb : Nat} {vo vn vw vw' vc : Value} {nx nx' : Nat} {Nw : List KN} {ws ws' : List (Int × List UInt8)} {cs : List PC} (h : Lf wb w W pb xb vo vn vw vc nx Nw ws cs) (hr : RP W' wb.heap.size pb vo vn vw' nx' Nw ws') (hb : Below wb.heap.size wb W') (hp : PstR W W') : Lf wb w W' pb xb vo vn vw' vc nx' Nw ws' cs :=
  ⟨h.rw.next hr hb hp, (hp.2 _ _ _ h.box (by decide) (by decide) (by decide)).trans h.box, hp.own h.cells (by decide) (by decide) (by decide), h.ge⟩
/-- What abides while a page is made. -/
def PstC (w w' : World) : Prop := w.heap.size ≤ w'.heap.size ∧ ∀ (q : Nat) (cs : Array Value) (t : TypeId), w.heap[q]? = some (.cells cs t (0, 0)) → t ≠ 142 → t ≠ 179 → t ≠ 145 → w'.heap[q]? = w.heap[q]?
theorem PstC.own {α : Type} {f : α → List Value} {k : Nat} {t : TypeId} {w w' : World} {base : Nat} {v : Value} {l : List α} (h : PstC w w') (ho : OwnL f t k w base v l) (h1 : t ≠ 142) (h2 : t ≠ 179) (h3 : t ≠ 145) : OwnL f t k w' base v l :=
  ho.keep fun g hg _ => by
    obtain ⟨cur, hcur⟩ := own_cells ho g hg
    exact h.2 g cur t hcur h1 h2 h3
/-- A cell more. -/
theorem Lf.step {wb w W W1 w4 : World} {pb xb : Nat} {vo vn vw vc vc' : Value} {nx : Nat} {Nw : List KN} {ws : List (Int × List UInt8)} {cs : List PC} {x : PC} (h : Lf wb w W pb xb vo vn vw vc nx Nw ws cs) (hww : wb.heap.size ≤ w.heap.size) (hb : Below W.heap.size W W1)
    (ho : OwnL pcC 179 4 w4 w.heap.size vc' (cs ++ [x])) (hg : (W1.alloc (.cells (pcC x).toArray 179)).grownBy w4 vc.ownBlock) :
    (Lf wb w (w4.setCell ⟨xb, 1, none⟩ vc') pb xb vo vn vw vc' nx Nw ws (cs ++ [x]) ∧ PstC W (w4.setCell ⟨xb, 1, none⟩ vc')) ∧ w4.heap[xb]? = some (.cells #[.int .i64 1, vc, .slice none 0 0, .string ⟨#[]⟩, .int .i64 0] 142 (0, 0)) := by
  have hba : Below W1.heap.size W1 (W1.alloc (.cells (pcC x).toArray 179)) := (Below.refl _ _).alloc (Nat.le_refl _) _
  have hb2 := bthen hb hba
  have hk4 : ∀ q, q < W.heap.size → vc.ownBlock ≠ some q → w4.heap[q]? = W.heap[q]? := fun q hq hne => (hg.block q (Nat.lt_of_lt_of_le hq hb2.size) fun e => hne e.symm).trans (hb2.block q hq)
  have hxc : vc.ownBlock ≠ some xb := fun e => by
    obtain ⟨cur, hc⟩ := own_cells h.cells xb e
    rw [h.box] at hc
    cases hc
  have hb4 := (hk4 xb (lt_of_block h.box) hxc).trans h.box
  have hxc' : vc'.ownBlock ≠ some xb := fun e => by
    obtain ⟨cur, hc⟩ := own_cells ho xb e
    rw [hb4] at hc
    cases hc
  have h4 := h.rw.grow hww h.cells hb2 hg (by decide) (by decide) (by decide)
  refine ⟨⟨⟨h4.set hww hb4 h.ge (by decide) (by decide) (by decide), blk_set hb4 1 vc', ho.keep fun g hg2 _ => Below.heap_setCell _ _ _ _ fun e => hxc' (by rw [hg2]; exact congrArg some e), h.ge⟩, by simp [World.setCell]; exact Nat.le_trans hb2.size hg.size, fun q cs' t hq h1 h2 _ => ?_⟩, hb4⟩
  rw [Below.heap_setCell _ _ _ _ fun e => by
    simp only at e
    rw [e, h.box] at hq
    cases hq
    exact h1 rfl]
  exact hk4 q (lt_of_block hq) fun e => by
    obtain ⟨cur, hc⟩ := own_cells h.cells q e
    rw [hq] at hc
    cases hc
    exact h2 rfl
theorem es_row_at {w : World} {base n c : Nat} {A : Option Addr} {l : List Ent} (h : Own w base (.slice A n c) l) {i : Nat} (hi : i < l.length) :
    ∃ ad e cur, A = some ad ∧ l[i]? = some e ∧ w.heap[ad.block]? = some (.cells cur 87 (0, 0)) ∧ w.cell? (ad.add (i * 2)) = some (.string e.k) ∧ w.cell? ⟨(ad.add (i * 2)).block, (ad.add (i * 2)).off + 1, none⟩ = some (.string e.v) := by
  obtain ⟨ad, e, hA, hx, _, q0, q1⟩ := (es_own h).at_ hi
  rcases h.2 with ⟨hv, h0⟩ | ⟨g, cap, cur, hv, _, hh, _⟩
  · injection hv with e1 e2 e3
    rw [e1] at hA
    cases hA
  · injection hv with e1 e2 e3
    rw [e1] at hA
    cases hA
    exact ⟨_, e, cur, e1, hx, hh, q0, q1⟩
theorem leafD_in {l : List Ent} {i : Nat} {e : Ent} (h : l[i]? = some e) (r : List Int) {d : Int × PP} (hd : d ∈ chainD (cutL e.v) (r.drop (pieces (l.take i)))) : d ∈ leafD l r := by
  rw [← List.take_append_drop (i + 1) l, leafD_append, leafD_snoc h]
  exact List.mem_append_left _ (List.mem_append_right _ hd)

set_option maxHeartbeats 8000000 in
set_option maxRecDepth 100000 in
theorem rfLeaf_any {wb w : World} {pb rb j c n base : Nat} {A : Option Addr} {vo vn vw vk : Value} {Nw : List KN} {ws : List (Int × List UInt8)} {l : List Ent} (hb : Below wb.heap.size wb w) (hpb : wb.heap.size ≤ pb) (h : RP w wb.heap.size pb vo vn vw (j + 2) Nw ws) (hws : ws.length ≤ 5000) (hj : j + pieces l + 3 ≤ 5000)
    (hr : RefAt w rb (.slice A n c) vk) (he : Own w base (.slice A n c) l) (hn : l.length = n) (hn6 : n ≤ 6) (hsz : ∀ e ∈ l, e.v.size ≤ 140737488351232)
    (hok : ∀ d ∈ leafD l (ups j (pieces l)) ++ [(((j + pieces l + 2 : Nat) : Int), leafP l (ups j (pieces l)))], okPage d.2 ∧ Bd d.2) :
    Calls Tryz.prog 60 #[.pointer (some ⟨pb, 0, none⟩), .pointer (some ⟨rb, 0, none⟩)] w fun e w' => ∃ v vw', e = .returned v ∧ OwnI w' w.heap.size v (((j + pieces l + 2 : Nat) : Int) :: ups j (pieces l)) ∧
      RW wb w w' pb vo vn vw' (j + pieces l + 3) Nw (ws ++ (leafD l (ups j (pieces l)) ++ [(((j + pieces l + 2 : Nat) : Int), leafP l (ups j (pieces l)))]).map encOf) := by
  obtain ⟨R, hR⟩ : ∃ R, R = ups j (pieces l) := ⟨_, rfl⟩
  have hpl := pieces_le l
  have r0 := cell_at hr 0 _ rfl
  have HE := Lib.hid he
  have HR := Lib.hid hr
  have HN := Lib.hid hn
  have HSZ := Lib.hid hsz
  have HOK := Lib.hid hok
  have HRR := Lib.hid hR
  have HP1 := Lib.hid hb.size
  have HP0 : Hid (RW wb w w pb vo vn vw (j + 2) Nw ws) := Lib.hid ⟨h, hb, .refl _⟩
  clear he hr hn hsz hok hR h hb
  go_enter Tryz.func60, Tryz.ntmps60
  go_wp2_with fail
  go_loopw [6, 22] (fun s6 s22 wr => ∃ (i : Nat) (v6 : Value), i ≤ n ∧ s22 = .int .i64 i ∧ v6 = s6 ∧ Hid (OwnI wr w.heap.size v6 (ups j (pieces (l.take i)))) ∧ Hid (RW wb w wr pb vo vn vw (j + pieces (l.take i) + 2) Nw ws)) (fun _ s22 _ => n - (intOf s22).toNat)
  case atStart => exact ⟨0, _, Nat.zero_le _, rfl, rfl, Lib.hid (OwnL.nil_ _ _ _), HP0⟩
  case round =>
    clear HP0
    obtain ⟨i, v6, hi, rfl, rfl, HO, HW⟩ := hrel
    by_cases hlt : i < n
    · obtain ⟨w0, hw0⟩ : ∃ x, x = wr := ⟨_, rfl⟩
      subst hw0
      obtain ⟨ad, e, hA, hx, hal, q0, q1⟩ := (es_own (pst_es HW.out.pst HE.out)).at_ (i := i) (by rw [HN.out]; exact hlt)
      subst hA
      have HSNO := Lib.hid (pieces_snoc hx)
      have HLE := Lib.hid (pieces_le_take hx)
      have hev := HSZ.out e (List.mem_of_getElem? hx)
      have hcl := cutL_le e.v
      clear hx q0
      go_wp2_with fail
      refine (rfCut_any e.v w0 hev).mono ?_
      rintro x w1 ⟨v8, rfl, ho8, hb8⟩
      obtain ⟨A8, c8, hv8, _, _⟩ := ho8.form
      obtain ⟨m8, hm8⟩ : ∃ m8, (cutL e.v).length = m8 := ⟨_, rfl⟩
      rw [hm8] at hv8 hcl
      subst hv8
      have HM8 := Lib.hid hm8
      have HO1 := Lib.hid (HO.out.below hb8)
      have HW1 := Lib.hid (HW.out.below hb8)
      clear ho8 hb8 hm8 HO HW q1 hal
      go_wp2_with fail
      go_loopw [6, 33] (fun s6 s33 wx => ∃ (d : Nat) (v6 : Value), d ≤ m8 ∧ s33 = .int .i64 d ∧ v6 = s6 ∧ Hid (OwnI wx w.heap.size v6 (ups j (pieces (l.take i) + d))) ∧ Hid (RW wb w wx pb vo vn vw (j + pieces (l.take i) + d + 2) Nw ws)) (fun _ s33 _ => m8 - (intOf s33).toNat)
      case atStart => exact ⟨0, _, Nat.zero_le _, rfl, rfl, HO1, HW1⟩
      case round =>
        clear HO1 HW1
        obtain ⟨d, v6, hd, rfl, rfl, HO, HW⟩ := hrel
        have hle := HLE.out
        rw [HM8.out] at hle
        by_cases hdt : d < m8
        · obtain ⟨A6, c6, hv6, _, _⟩ := HO.out.form
          rw [ups_len] at hv6
          obtain ⟨n6, hn6'⟩ : ∃ n6, n6 = pieces (l.take i) + d := ⟨_, rfl⟩
          rw [← hn6'] at hv6
          subst hv6
          go_wp2_with fail
          refine (rfTake_any HW.out.bel hpb HW.out.rp (by omega)).mono ?_
          rintro x w2 ⟨rfl, hrp, hbl, hps⟩
          have hO2 := hps.own HO.out (by decide) (by decide) (by decide)
          obtain ⟨v6', w4, hr4, ho4, hg4⟩ := run_append_one ienc 38 3 38 _ _ ⟨_, Tryz.underlying38, rfl⟩ intInfo rfl (by omega) (by omega) (by omega) hO2 ((j + pieces (l.take i) + d + 2 : Nat) : Int) (by rw [ups_len]; omega) (Nat.le_trans HW.out.pst.1 hps.1)
          have hba : Below w2.heap.size w2 (w2.alloc (.cells (icell ((j + pieces (l.take i) + d + 2 : Nat) : Int)).toArray 3)) := (Below.refl _ _).alloc (Nat.le_refl _) _
          have HW4 : Hid (RW wb w w4 pb vo vn vw (j + pieces (l.take i) + (d + 1) + 2) Nw ws) := Lib.hid (by
            have h1 := (HW.out.next (by rw [show j + pieces (l.take i) + (d + 1) + 2 = j + pieces (l.take i) + d + 2 + 1 by omega]; exact hrp) hbl hps : RW wb w w2 pb vo vn vw (j + pieces (l.take i) + (d + 1) + 2) Nw ws)
            exact h1.grow HP1.out hO2 hba hg4 (by decide) (by decide) (by decide))
          have HO4 : Hid (OwnI w4 w.heap.size v6' (ups j (pieces (l.take i) + (d + 1)))) := Lib.hid (by
            rw [← Nat.add_assoc, ups_snoc, show j + (pieces (l.take i) + d) + 2 = j + pieces (l.take i) + d + 2 by omega]
            exact ho4)
          have HR4 := Lib.hid hr4
          clear hrp hbl hps hO2 hr4 ho4 hg4 hba HO HW hn6'
          go_wp2_with (at_builtin; refine wpList_append_ran rfl (.tmp 35) (.tmp 38) 38 rfl _ _ _ _ rfl rfl HR4.out ?_)
          exact ⟨⟨d + 1, _, by omega, by go_num, rfl, HO4, HW4⟩, by simp [intOf]; omega⟩
        · have hde : d = m8 := by omega
          subst hde
          have HO5 : Hid (OwnI wr w.heap.size v6 (ups j (pieces (l.take (i + 1))))) := Lib.hid (by rw [HSNO.out, HM8.out]; exact HO.out)
          have HW5 : Hid (RW wb w wr pb vo vn vw (j + pieces (l.take (i + 1)) + 2) Nw ws) := Lib.hid (by rw [HSNO.out, HM8.out, ← Nat.add_assoc]; exact HW.out)
          clear HO HW
          go_wp2_with fail
          exact ⟨⟨i + 1, _, by omega, by go_num, rfl, HO5, HW5⟩, by simp [intOf]; omega⟩
    · have hie : i = n := by omega
      subst hie
      rw [List.take_of_length_le (by rw [HN.out]; exact Nat.le_refl _), ← HRR.out] at HO
      rw [List.take_of_length_le (by rw [HN.out]; exact Nat.le_refl _)] at HW
      obtain ⟨wq, hwq⟩ : ∃ x, x = wr := ⟨_, rfl⟩
      subst hwq
      obtain ⟨A6, c6, hv6, hc6, _⟩ := HO.out.form
      have hrl : R.length = pieces l := by rw [HRR.out, ups_len]
      rw [hrl] at hv6
      obtain ⟨nR, hnR⟩ : ∃ nR, nR = pieces l := ⟨_, rfl⟩
      rw [← hnR] at hv6 hrl
      have hnR5 : nR ≤ 5000 := by rw [hnR]; omega
      subst hv6
      obtain ⟨ow, how⟩ : ∃ ow : Int, ow = ((j + pieces l + 2 : Nat) : Int) := ⟨_, rfl⟩
      have HRL := Lib.hid hrl
      have HOW := Lib.hid how
      have HNR := Lib.hid hnR
      clear hc6 hrl hnR how
      go_wp2_with fail
      refine (rfTake_any HW.out.bel hpb HW.out.rp (by omega)).mono ?_
      rintro x w2 ⟨rfl, hrp, hbl, hps⟩
      rw [← HOW.out]
      have HW2 := Lib.hid (HW.out.next hrp hbl hps)
      have HO2 := Lib.hid (hps.own HO.out (by decide) (by decide) (by decide))
      clear hrp hbl hps HO HW
      obtain ⟨xb, hxb⟩ : ∃ xb, xb = w2.heap.size := ⟨_, rfl⟩
      obtain ⟨w3, hw3⟩ : ∃ w3, w3 = w2.alloc (.cells #[.int .i64 1, .slice none 0 0, .slice none 0 0, .string ⟨#[]⟩, .int .i64 0] 142) := ⟨_, rfl⟩
      have hb3 : Below w2.heap.size w2 w3 := by rw [hw3]; exact (Below.refl _ _).alloc (Nat.le_refl _) _
      have HL0 : Hid (Lf wb w w3 pb xb vo vn vw (.slice none 0 0) (j + pieces l + 2 + 1) Nw (ws ++ (leafD (l.take 0) R).map encOf) (leafC (l.take 0) R)) := Lib.hid ⟨by
        rw [show (ws ++ (leafD (l.take 0) R).map encOf) = ws by simp [leafD]]
        exact HW2.out.below hb3, by rw [hw3, hxb]; exact heap_alloc_new _ _, OwnL.nil_ _ _ _, by rw [hxb]; exact HW2.out.pst.1⟩
      have HO3 := Lib.hid (HO2.out.below hb3)
      have HW3 := Lib.hid hw3
      have HXB := Lib.hid hxb
      clear HW2 HO2 hb3 hw3 hxb
      go_wp2_with fail
      rw [← HW3.out, ← HXB.out]
      go_loopw [11, 47] (fun s11 s47 wr => ∃ (q : Nat) (vc vw' : Value), q ≤ i ∧ s47 = .int .i64 q ∧ s11 = .int .i64 (pieces (l.take q) : Nat) ∧ Hid (Lf wb w wr pb xb vo vn vw' vc (j + pieces l + 2 + 1) Nw (ws ++ (leafD (l.take q) R).map encOf) (leafC (l.take q) R)) ∧ Hid (OwnI wr w.heap.size (.slice A6 nR c6) R)) (fun _ s47 _ => i - (intOf s47).toNat)
      case atStart => exact ⟨0, _, _, Nat.zero_le _, rfl, rfl, HL0, HO3⟩
      case round =>
        clear HL0 HO3 HW3
        obtain ⟨q, vc, vw', hq, rfl, rfl, HL, HO⟩ := hrel
        by_cases hqi : q < i
        · obtain ⟨w5, hw5⟩ : ∃ x, x = wr := ⟨_, rfl⟩
          subst hw5
          obtain ⟨ad, e, cur, hA, hx, hh, q0, q1⟩ := es_row_at (pst_es HL.out.rw.pst HE.out) (i := q) (by rw [HN.out]; exact hqi)
          subst hA
          have HX := Lib.hid hx
          have HSNO := Lib.hid (pieces_snoc hx)
          have HLE := Lib.hid (pieces_le_take hx)
          have HDS := Lib.hid (leafD_snoc hx R)
          have HCS := Lib.hid (leafC_snoc hx R)
          have hev := HSZ.out e (List.mem_of_getElem? hx)
          have hcl := cutL_le e.v
          obtain ⟨at_, hat⟩ : ∃ a, a = pieces (l.take q) := ⟨_, rfl⟩
          rw [← hat]
          have HAT := Lib.hid hat
          clear hx hat
          go_wp2_with fail
          refine (rfCut_any e.v w5 hev).mono ?_
          rintro x w6 ⟨v8, rfl, ho8, hb8⟩
          obtain ⟨A8, c8, hv8, _, _⟩ := ho8.form
          obtain ⟨m8, hm8⟩ : ∃ m8, (cutL e.v).length = m8 := ⟨_, rfl⟩
          rw [hm8] at hv8 hcl
          subst hv8
          have HM8 := Lib.hid hm8
          have HS8 := Lib.hid (ho8.mono (HL.out.rw.pst.1))
          have HL6 := Lib.hid (HL.out.below hb8)
          have HO6 := Lib.hid (HO.out.below hb8)
          have hh6 := (hb8.block _ (lt_of_block hh)).trans hh
          have q06 := (hb8.cell (p := ad.add (q * 2)) (by rw [block_of_add]; exact lt_of_block hh)).trans q0
          have q16 := (hb8.cell (p := ⟨(ad.add (q * 2)).block, (ad.add (q * 2)).off + 1, none⟩) (by simp only [block_of_add]; exact lt_of_block hh)).trans q1
          clear ho8 hb8 hm8 HL HO q0 q1 hh
          by_cases hm0 : m8 = 0
          · subst hm0
            have HC0 : Hid (cutL e.v = []) := Lib.hid (List.eq_nil_of_length_eq_zero HM8.out)
            obtain ⟨W, hW⟩ : ∃ W, W = w6.drew := ⟨_, rfl⟩
            have hdW : Below w6.heap.size w6 W := by rw [hW]; exact ⟨rfl, rfl, rfl, Nat.le_refl _, fun k _ => rfl⟩
            have HLW := Lib.hid (HL6.out.below hdW)
            have HW := Lib.hid hW
            have hhW := (hdW.block _ (lt_of_block hh6)).trans hh6
            obtain ⟨bs, hbs⟩ : ∃ bs : List Nat, bs = vc.ownBlock.toList := ⟨_, rfl⟩
            have hn1 : xb ∉ bs := fun hx => by
              obtain ⟨cur, hc⟩ := own_cells HLW.out.cells xb (by rw [hbs] at hx; simpa using hx)
              rw [HLW.out.box] at hc
              cases hc
            have hn2 : ad.block ∉ bs := fun hx => by
              obtain ⟨cur, hc⟩ := own_cells HLW.out.cells ad.block (by rw [hbs] at hx; simpa using hx)
              rw [hhW] at hc
              cases hc
            have HBS : Hid (∀ q, q ∉ bs → vc.ownBlock ≠ some q) := Lib.hid (fun q hq hx => hq (by rw [hbs]; simpa using hx))
            obtain ⟨Ac, cc, hvc, _, _⟩ := HLW.out.cells.form
            obtain ⟨nc, hnc⟩ : ∃ nc, nc = (leafC (l.take q) R).length := ⟨_, rfl⟩
            have hnc6 : nc ≤ 6 := by rw [hnc, leafC_len, List.length_take]; omega
            rw [← hnc] at hvc
            have HVC := Lib.hid hvc
            have hp0 : ∀ p' : Dc.Past bs W, p'.val.cell? ⟨xb, 1, none⟩ = some (.slice Ac nc cc) := fun p' => (p'.ok.cell (lt_of_block HLW.out.box) hn1).trans (by rw [← hvc]; exact cell_at HLW.out.box 1 vc rfl)
            have hp1 : ∀ p' : Dc.Past bs W, p'.val.cell? (ad.add (q * 2)) = some (.string e.k) := fun p' => (p'.ok.cell (by rw [block_of_add]; exact lt_of_block hhW) (by rw [block_of_add]; exact hn2)).trans ((hdW.cell (by rw [block_of_add]; exact lt_of_block hh6)).trans q06)
            have hp2 : ∀ p' : Dc.Past bs W, p'.val.cell? ⟨(ad.add (q * 2)).block, (ad.add (q * 2)).off + 1, none⟩ = some (.string e.v) := fun p' => (p'.ok.cell (by simp only [block_of_add]; exact lt_of_block hhW) (by simp only [block_of_add]; exact hn2)).trans ((hdW.cell (by simp only [block_of_add]; exact lt_of_block hh6)).trans q16)
            have hba : Below W.heap.size W (W.alloc (.cells (pcC ⟨e.k, e.v, 0, 0⟩).toArray 179)) := (Below.refl _ _).alloc (Nat.le_refl _) _
            obtain ⟨vc', w4, hr4, ho4, hg4⟩ := run_append_one encC 139 179 139 _ _ ⟨_, Tryz.underlying139, rfl⟩ infoRfC rfl (by omega) (by omega) (by omega) HLW.out.cells ⟨e.k, e.v, 0, 0⟩ (by omega) (Nat.le_trans HL6.out.rw.pst.1 hdW.size)
            obtain ⟨⟨hst, hpc⟩, hb4⟩ := HLW.out.step HP1.out (Below.refl _ _) ho4 hg4
            obtain ⟨A4, c4, hv4, _, _⟩ := ho4.form
            obtain ⟨n4, hn4⟩ : ∃ n4, n4 = (leafC (l.take q) R ++ [(⟨e.k, e.v, 0, 0⟩ : PC)]).length := ⟨_, rfl⟩
            rw [← hn4] at hv4
            rw [hvc] at hr4 hb4
            have d4 := cell_at hb4 1 (.slice Ac nc cc) rfl
            have f4 := free_at hb4 1
            have hcell : cellOf e (R.drop (pieces (l.take q))) = ⟨e.k, e.v, 0, 0⟩ := by unfold cellOf; rw [if_pos HC0.out]
            have HST : Hid (Lf wb w (w4.setCell ⟨xb, 1, none⟩ vc') pb xb vo vn vw' vc' (j + pieces l + 2 + 1) Nw (ws ++ (leafD (l.take (q + 1)) R).map encOf) (leafC (l.take (q + 1)) R)) := Lib.hid (by
              rw [HDS.out, HCS.out, hcell, HC0.out]
              rw [show chainD [] (R.drop (pieces (l.take q))) = [] from rfl, List.append_nil]
              exact hst)
            have HOW2 : Hid (OwnI (w4.setCell ⟨xb, 1, none⟩ vc') w.heap.size (.slice A6 nR c6) R) := Lib.hid (hpc.own (HO6.out.below hdW) (by decide) (by decide) (by decide))
            have HPN : Hid (at_ = pieces (l.take (q + 1))) := Lib.hid (by rw [HSNO.out, HM8.out, HAT.out]; rfl)
            have HR4 := Lib.hid hr4
            have HG4 := Lib.hid hg4
            have HBA := Lib.hid hba
            have HV4 := Lib.hid hv4
            clear hdW hW hhW hbs hn1 hn2 hvc hnc hba hr4 ho4 hg4 hst hpc hb4 hv4 hn4 hcell hh6 q06 q16
            go_wp2_with fail
            refine Dc.wp_region_segs 16 bs [([0, 1, 2, 3, 4, 5, 6, 7, 8, 9, 10, 11, 12], 13), ([], 14), ([15], 16)] [] (by kernel_rfl) (by kernel_rfl) (by kernel_rfl) (by kernel_rfl) (by kernel_rfl) (by intro c a d v w h; cases d <;> exact h) ?_
            rw [← HW.out]
            refine Dc.wpSegs_more ?_
            simp only [Dc.pick, List.getElem?_cons_zero, List.getElem?_cons_succ]
            repeat (first | go_big_quiet_step (fail) | quiet_step (fail))
            refine wpQuiet_nil ?_
            refine Dc.wpOp_heavy rfl (by rfl) (fun Q hQ => ?_)
            go_simp
            refine hQ _ _ (fun _ => Dc.But.of_below HBA.out) ?_
            clear hQ Q hp0 hp1 hp2
            refine Dc.wpSegs_more ?_
            simp only [Dc.pick]
            refine wpQuiet_nil ?_
            refine Dc.wpOp_heavy rfl (by rfl) (fun Q hQ => ?_)
            refine oper_append_ran (.tmp 60) (.tmp 72) 139 rfl _ _ _ _ rfl rfl HR4.out ?_
            refine hQ _ _ (fun _ => ⟨HG4.out.size, fun q hq hn => HG4.out.block q hq fun e => HBS.out q hn (by rw [← e])⟩) ?_
            clear hQ Q
            refine Dc.wpSegs_more ?_
            simp only [Dc.pick, List.getElem?_cons_zero, List.getElem?_cons_succ]
            repeat (first | go_big_quiet_step (fail) | quiet_step (fail))
            refine wpQuiet_nil ?_
            refine Dc.wpOp_heavy rfl (by rfl) (fun Q hQ => ?_)
            rw [HV4.out] at HST HOW2 ⊢
            go_simp
            refine hQ _ _ (fun h => absurd rfl h) ?_
            clear hQ Q d4 f4
            refine Dc.wpSegs_last ?_
            simp only [Dc.pick]
            refine wpQuiet_nil ?_
            go_wp2
            exact ⟨⟨q + 1, _, _, by omega, by go_num, by rw [← HPN.out], HST, HOW2⟩, by simp [intOf]; omega⟩
          · have hm1 : ((m8 : Int) == 0) = false := by simp; omega
            have hmI : ¬ ((m8 : Int) = 0) := by omega
            have HAE : Hid (∀ ad' e', some ad = some ad' → l[q]? = some e' → ad' = ad ∧ e' = e) := Lib.hid (fun ad' e' h1 h2 => by
              cases h1
              rw [HX.out] at h2
              cases h2
              exact ⟨rfl, rfl⟩)
            clear q06 q16 hh6
            go_wp2_with fail
            go_loopw [14] (fun s14 wr => ∃ (d : Nat) (vw2 : Value), d ≤ m8 ∧ s14 = .int .i64 ((m8 : Int) - 1 - d) ∧ Hid (Lf wb w wr pb xb vo vn vw2 vc (j + pieces l + 2 + 1) Nw (ws ++ (leafD (l.take q) R ++ (chainD (cutL e.v) (R.drop at_)).take d).map encOf) (leafC (l.take q) R)) ∧ Hid (OwnI wr w.heap.size (.slice A6 nR c6) R) ∧ Hid (OwnS wr w.heap.size (.slice A8 m8 c8) (cutL e.v))) (fun s14 _ => (intOf s14 + 1).toNat)
            case atStart => exact ⟨0, vw', Nat.zero_le _, by simp, Lib.hid (by rw [List.take_zero, List.append_nil]; exact HL6.out), HO6, HS8⟩
            case round =>
              clear HL6 HO6 HS8
              obtain ⟨d, vw2, hd, rfl, HL, HO, HS⟩ := hrel
              have hle := HLE.out
              rw [HM8.out, ← HAT.out, ← HNR.out] at hle
              by_cases hdt : d < m8
              · obtain ⟨w7, hw7⟩ : ∃ x, x = wr := ⟨_, rfl⟩
                subst hw7
                obtain ⟨mm, hmm⟩ : ∃ mm, mm = m8 - 1 - d := ⟨_, rfl⟩
                have hmi : (m8 : Int) - 1 - d = (mm : Int) := by omega
                have hmn : (m8 : Int) - 1 - ((d + 1 : Nat) : Int) = (mm : Int) - 1 := by omega
                have hmlt : mm < m8 := by omega
                obtain ⟨s, hs, hcd⟩ := chainD_dn (c := cutL e.v) (by rw [HM8.out]; exact hcl) (R.drop at_) (m := mm) (d := d) (by rw [HM8.out]; omega)
                obtain ⟨ad8, s', cur8, hA8, hs', hh8, _, hc8⟩ := row_at strC_enc HS.out (i := mm) (by rw [HM8.out]; exact hmlt)
                subst hA8
                rw [hs] at hs'
                cases hs'
                obtain ⟨k6, hk6⟩ : ∃ k6, k6 = at_ + mm := ⟨_, rfl⟩
                have hk6R : k6 < nR := by rw [hk6]; exact Nat.lt_of_lt_of_le (Nat.add_lt_add_left hmlt at_) hle
                obtain ⟨ad6, z6, cur6, hA6, hz6, hh6, _, hc6⟩ := row_at ienc HO.out (i := k6) (by rw [HRL.out]; exact hk6R)
                subst hA6
                have hg6 : (R.drop at_).getD mm 0 = z6 := by rw [List.getD_eq_getElem?_getD, List.getElem?_drop, ← hk6, hz6]; rfl
                have q8 : w7.cell? (ad8.add mm) = some (.string s) := by
                  have := hc8 0 _ (by omega) rfl
                  rwa [add_of_add, Nat.mul_one, Nat.add_zero] at this
                have q6 : w7.cell? (ad6.add (at_ + mm)) = some (.int .i64 z6) := by
                  have := hc6 0 _ (by omega) rfl
                  rwa [add_of_add, Nat.mul_one, Nat.add_zero, hk6] at this
                rw [hg6] at hcd
                obtain ⟨W, hW⟩ : ∃ W, W = w7.drew := ⟨_, rfl⟩
                have hdW : Below w7.heap.size w7 W := by rw [hW]; exact ⟨rfl, rfl, rfl, Nat.le_refl _, fun k _ => rfl⟩
                have HLW := Lib.hid (HL.out.below hdW)
                have HOW2 := Lib.hid (HO.out.below hdW)
                have HSW := Lib.hid (OwnS.below HS.out hdW)
                have HW := Lib.hid hW
                have hp8 : ∀ p' : Dc.Past [] W, p'.val.cell? (ad8.add mm) = some (.string s) := fun p' => (p'.ok.cell (by rw [block_of_add]; exact Nat.lt_of_lt_of_le (lt_of_block hh8) hdW.size) (by simp)).trans ((hdW.cell (by rw [block_of_add]; exact lt_of_block hh8)).trans q8)
                have hp6 : ∀ p' : Dc.Past [] W, p'.val.cell? (ad6.add (at_ + mm)) = some (.int .i64 z6) := fun p' => (p'.ok.cell (by rw [block_of_add]; exact Nat.lt_of_lt_of_le (lt_of_block hh6) hdW.size) (by simp)).trans ((hdW.cell (by rw [block_of_add]; exact lt_of_block hh6)).trans q6)
                have hk6b : at_ + mm < nR := by rw [← hk6]; exact hk6R
                rw [hmi]
                by_cases hl2 : mm + 1 < m8
                · have hl2I : ((mm : Int) + 1 < (m8 : Int)) := by omega
                  obtain ⟨k7, hk7⟩ : ∃ k7, k7 = k6 + 1 := ⟨_, rfl⟩
                  have hk7R : k7 < nR := by rw [hk7, hk6]; exact Nat.lt_of_lt_of_le (Nat.add_lt_add_left hl2 at_) hle
                  obtain ⟨ad7, z7, cur7, hA7, hz7, hh7, _, hc7⟩ := row_at ienc HO.out (i := k7) (by rw [HRL.out]; exact hk7R)
                  cases hA7
                  have hg7 : (R.drop at_).getD (mm + 1) 0 = z7 := by rw [List.getD_eq_getElem?_getD, List.getElem?_drop, show at_ + (mm + 1) = k7 by rw [hk7, hk6]; rfl, hz7]; rfl
                  have q7 : w7.cell? ⟨ad6.block, ad6.off + (at_ + mm + 1), none⟩ = some (.int .i64 z7) := by
                    have := hc7 0 _ (by omega) rfl
                    rw [add_of_add, Nat.mul_one, Nat.add_zero, hk7, hk6] at this
                    exact this
                  have hk7b : at_ + mm + 1 < nR := by rw [← hk6, ← hk7]; exact hk7R
                  rw [HM8.out, if_pos hl2, hg7] at hcd
                  have hw := rfWrite_any (i := z6) (chP s z7) none none 0 0 HLW.out.rw.bel hpb HLW.out.rw.rp (by
                    have h1 := leafD_len (l.take q) R
                    have h2 := pieces_take l q
                    have h3 := chainD_len (cutL e.v) (R.drop at_) (by rw [HM8.out]; exact hcl)
                    rw [List.length_append, List.length_map, List.length_append, h1, List.length_take]
                    omega) (Ls.nil _ _) (Ls.nil _ _) (HOK.out _ (List.mem_append_left _ (by rw [← HRR.out]; exact leafD_in HX.out R (by rw [← HAT.out]; exact List.mem_of_getElem? hcd)))).2 (HOK.out _ (List.mem_append_left _ (by rw [← HRR.out]; exact leafD_in HX.out R (by rw [← HAT.out]; exact List.mem_of_getElem? hcd)))).1
                  rw [show pageV (chP s z7) none 0 none 0 = .agg #[.int .i64 3, .slice none 0 0, .slice none 0 0, .string s, .int .i64 z7] from rfl] at hw
                  have HWR := Lib.hid hw
                  have HCD : Hid ((chainD (cutL e.v) (R.drop at_)).take (d + 1) = (chainD (cutL e.v) (R.drop at_)).take d ++ [(z6, chP s z7)]) := Lib.hid (by rw [List.take_add_one, hcd]; rfl)
                  have HMN := Lib.hid hmn
                  clear hw hcd hmm hmi hmn hs hh8 hc8 hk6 hz6 hh6 hc6 hg6 hdW hW hk7 hz7 hh7 hc7 hg7
                  go_wp2_with fail
                  refine Dc.wp_region_segs 13 [] [([0, 1, 2, 3, 4, 5, 6, 7, 8, 9, 10, 11], 12), ([], 13)] [] (by kernel_rfl) (by kernel_rfl) (by kernel_rfl) (by kernel_rfl) (by kernel_rfl) (by intro c a d v w h; cases d <;> exact h) ?_
                  rw [← HW.out]
                  refine Dc.wpSegs_more ?_
                  simp only [Dc.pick, List.getElem?_cons_zero, List.getElem?_cons_succ]
                  repeat (first | go_big_quiet_step (fail) | quiet_step (fail))
                  refine wpQuiet_nil ?_
                  have HDT := Lib.hid hdt
                  have HWM := Lib.hid (wrd64 (Nat.le_trans (Nat.le_of_lt hmlt) (Nat.le_trans hcl (by decide))))
                  clear hp8 hp6 hm1 hmI hm0 hle hcl hl2I hl2 hqi hnR5 hev hdt hd hk6b hk6R hmlt
                  refine Dc.wpOp_heavy rfl (by rfl) (fun Q hQ => ?_)
                  refine rf_oper_run (.agg #[.int .i64 3, .slice none 0 0, .slice none 0 0, .string s, .int .i64 z7]) (w' := W) ?_ (hQ _ _ (fun _ => Dc.But.refl _ _) ?_)
                  · clear hQ Q
                    first | kernel_rfl | rfl | go_simp
                  simp only [Act.put]
                  clear hQ Q
                  refine Dc.wpSegs_more ?_
                  simp only [Dc.pick]
                  refine wpQuiet_nil ?_
                  refine Dc.wpOp_heavy rfl (by rfl) (fun Q hQ => ?_)
                  refine Dv.wp_call rfl Tryz.func63 (by kernel_rfl) (by kernel_rfl) (show _ = #[.pointer (some ⟨pb, 0, none⟩), .int .i64 z6, .agg #[.int .i64 3, .slice none 0 0, .slice none 0 0, .string s, .int .i64 z7]] by kernel_rfl) (HWR.out.mono ?_)
                  rintro x w9 ⟨rfl, vw3, hrp, hbl, hps⟩
                  refine ⟨_, rfl, hQ _ _ (fun h => absurd rfl h) ?_⟩
                  simp only [Act.put]
                  clear hQ Q
                  refine Dc.wpSegs_last ?_
                  simp only [Dc.pick]
                  refine wpQuiet_nil ?_
                  have hdt := HDT.out
                  have HL9 : Hid (Lf wb w w9 pb xb vo vn vw3 vc (j + pieces l + 2 + 1) Nw (ws ++ (leafD (l.take q) R ++ (chainD (cutL e.v) (R.drop at_)).take (d + 1)).map encOf) (leafC (l.take q) R)) := Lib.hid (HLW.out.next (by
                    rw [HCD.out, ← List.append_assoc, List.map_append, ← List.append_assoc]
                    exact hrp) hbl hps)
                  have HO9 : Hid (OwnI w9 w.heap.size (.slice (some ad6) nR c6) R) := Lib.hid (hps.own HOW2.out (by decide) (by decide) (by decide))
                  have HS9 : Hid (OwnS w9 w.heap.size (.slice (some ad8) m8 c8) (cutL e.v)) := Lib.hid (hps.own HSW.out (by decide) (by decide) (by decide))
                  clear hrp hbl hps
                  go_wp2
                  exact ⟨⟨d + 1, vw3, by omega, by rw [HMN.out, HWM.out], HL9, HO9, HS9⟩, by simp [intOf, HWM.out]⟩
                · have hl2I : ¬ ((mm : Int) + 1 < (m8 : Int)) := by omega
                  rw [HM8.out, if_neg hl2] at hcd
                  have hw := rfWrite_any (i := z6) (chP s 0) none none 0 0 HLW.out.rw.bel hpb HLW.out.rw.rp (by
                    have h1 := leafD_len (l.take q) R
                    have h2 := pieces_take l q
                    have h3 := chainD_len (cutL e.v) (R.drop at_) (by rw [HM8.out]; exact hcl)
                    rw [List.length_append, List.length_map, List.length_append, h1, List.length_take]
                    omega) (Ls.nil _ _) (Ls.nil _ _) (HOK.out _ (List.mem_append_left _ (by rw [← HRR.out]; exact leafD_in HX.out R (by rw [← HAT.out]; exact List.mem_of_getElem? hcd)))).2 (HOK.out _ (List.mem_append_left _ (by rw [← HRR.out]; exact leafD_in HX.out R (by rw [← HAT.out]; exact List.mem_of_getElem? hcd)))).1
                  rw [show pageV (chP s 0) none 0 none 0 = .agg #[.int .i64 3, .slice none 0 0, .slice none 0 0, .string s, .int .i64 0] from rfl] at hw
                  have HWR := Lib.hid hw
                  have HCD : Hid ((chainD (cutL e.v) (R.drop at_)).take (d + 1) = (chainD (cutL e.v) (R.drop at_)).take d ++ [(z6, chP s 0)]) := Lib.hid (by rw [List.take_add_one, hcd]; rfl)
                  have HMN := Lib.hid hmn
                  clear hw hcd hmm hmi hmn hs hh8 hc8 hk6 hz6 hh6 hc6 hg6 hdW hW
                  go_wp2_with fail
                  refine Dc.wp_region_segs 13 [] [([0, 1, 2, 3, 4, 5, 6, 7, 8, 9, 10, 11], 12), ([], 13)] [] (by kernel_rfl) (by kernel_rfl) (by kernel_rfl) (by kernel_rfl) (by kernel_rfl) (by intro c a d v w h; cases d <;> exact h) ?_
                  rw [← HW.out]
                  refine Dc.wpSegs_more ?_
                  simp only [Dc.pick, List.getElem?_cons_zero, List.getElem?_cons_succ]
                  repeat (first | go_big_quiet_step (fail) | quiet_step (fail))
                  refine wpQuiet_nil ?_
                  have HDT := Lib.hid hdt
                  have HWM := Lib.hid (wrd64 (Nat.le_trans (Nat.le_of_lt hmlt) (Nat.le_trans hcl (by decide))))
                  clear hp8 hp6 hm1 hmI hm0 hle hcl hl2I hl2 hqi hnR5 hev hdt hd hk6b hk6R hmlt
                  refine Dc.wpOp_heavy rfl (by rfl) (fun Q hQ => ?_)
                  refine rf_oper_run (.agg #[.int .i64 3, .slice none 0 0, .slice none 0 0, .string s, .int .i64 0]) (w' := W) ?_ (hQ _ _ (fun _ => Dc.But.refl _ _) ?_)
                  · clear hQ Q
                    first | kernel_rfl | rfl | go_simp
                  simp only [Act.put]
                  clear hQ Q
                  refine Dc.wpSegs_more ?_
                  simp only [Dc.pick]
                  refine wpQuiet_nil ?_
                  refine Dc.wpOp_heavy rfl (by rfl) (fun Q hQ => ?_)
                  refine Dv.wp_call rfl Tryz.func63 (by kernel_rfl) (by kernel_rfl) (show _ = #[.pointer (some ⟨pb, 0, none⟩), .int .i64 z6, .agg #[.int .i64 3, .slice none 0 0, .slice none 0 0, .string s, .int .i64 0]] by kernel_rfl) (HWR.out.mono ?_)
                  rintro x w9 ⟨rfl, vw3, hrp, hbl, hps⟩
                  refine ⟨_, rfl, hQ _ _ (fun h => absurd rfl h) ?_⟩
                  simp only [Act.put]
                  clear hQ Q
                  refine Dc.wpSegs_last ?_
                  simp only [Dc.pick]
                  refine wpQuiet_nil ?_
                  have hdt := HDT.out
                  have HL9 : Hid (Lf wb w w9 pb xb vo vn vw3 vc (j + pieces l + 2 + 1) Nw (ws ++ (leafD (l.take q) R ++ (chainD (cutL e.v) (R.drop at_)).take (d + 1)).map encOf) (leafC (l.take q) R)) := Lib.hid (HLW.out.next (by
                    rw [HCD.out, ← List.append_assoc, List.map_append, ← List.append_assoc]
                    exact hrp) hbl hps)
                  have HO9 : Hid (OwnI w9 w.heap.size (.slice (some ad6) nR c6) R) := Lib.hid (hps.own HOW2.out (by decide) (by decide) (by decide))
                  have HS9 : Hid (OwnS w9 w.heap.size (.slice (some ad8) m8 c8) (cutL e.v)) := Lib.hid (hps.own HSW.out (by decide) (by decide) (by decide))
                  clear hrp hbl hps
                  go_wp2
                  exact ⟨⟨d + 1, vw3, by omega, by rw [HMN.out, HWM.out], HL9, HO9, HS9⟩, by simp [intOf, HWM.out]⟩
              · have hde : d = m8 := by omega
                subst hde
                have hmi : (d : Int) - 1 - d = -1 := by omega
                rw [hmi]
                rw [List.take_of_length_le (l := chainD (cutL e.v) (R.drop at_)) (by rw [chainD_len _ _ (by rw [HM8.out]; exact hcl), HM8.out]; exact Nat.le_refl _), HAT.out, ← HDS.out] at HL
                obtain ⟨w7, hw7⟩ : ∃ x, x = wr := ⟨_, rfl⟩
                subst hw7
                have HQI := Lib.hid hqi
                have HC0 : Hid (cutL e.v ≠ []) := Lib.hid (fun h => hm0 (by rw [← HM8.out, h]; rfl))
                obtain ⟨W, hW⟩ : ∃ W, W = w7.drew := ⟨_, rfl⟩
                have hdW : Below w7.heap.size w7 W := by rw [hW]; exact ⟨rfl, rfl, rfl, Nat.le_refl _, fun k _ => rfl⟩
                have HLW := Lib.hid (HL.out.below hdW)
                have HW := Lib.hid hW
                obtain ⟨ad', e', cur, hA', hx', hhW, q0, q1⟩ := es_row_at (pst_es HLW.out.rw.pst HE.out) (i := q) (by rw [HN.out]; exact hqi)
                obtain ⟨rfl, rfl⟩ := HAE.out _ _ hA' hx'
                obtain ⟨ad6, z6, cur6, hA6, hz6, hh6, _, hc6⟩ := row_at ienc (HO.out.below hdW) (i := at_) (by rw [HRL.out]; exact Nat.lt_of_lt_of_le (Nat.lt_add_of_pos_right (Nat.pos_of_ne_zero hm0)) hle)
                subst hA6
                have hatR : at_ < nR := Nat.lt_of_lt_of_le (Nat.lt_add_of_pos_right (Nat.pos_of_ne_zero hm0)) hle
                have hg6 : (R.drop at_).getD 0 0 = z6 := by rw [List.getD_eq_getElem?_getD, List.getElem?_drop, Nat.add_zero, hz6]; rfl
                have q6 : W.cell? (ad6.add at_) = some (.int .i64 z6) := by
                  have := hc6 0 _ (by omega) rfl
                  rwa [add_of_add, Nat.mul_one, Nat.add_zero] at this
                obtain ⟨bs, hbs⟩ : ∃ bs : List Nat, bs = vc.ownBlock.toList := ⟨_, rfl⟩
                have hn1 : xb ∉ bs := fun hx => by
                  obtain ⟨cur, hc⟩ := own_cells HLW.out.cells xb (by rw [hbs] at hx; simpa using hx)
                  rw [HLW.out.box] at hc
                  cases hc
                have hn2 : ad'.block ∉ bs := fun hx => by
                  obtain ⟨cur, hc⟩ := own_cells HLW.out.cells ad'.block (by rw [hbs] at hx; simpa using hx)
                  rw [hhW] at hc
                  cases hc
                have hn6 : ad6.block ∉ bs := fun hx => by
                  obtain ⟨cur, hc⟩ := own_cells HLW.out.cells ad6.block (by rw [hbs] at hx; simpa using hx)
                  rw [hh6] at hc
                  cases hc
                have HBS : Hid (∀ q, q ∉ bs → vc.ownBlock ≠ some q) := Lib.hid (fun q hq hx => hq (by rw [hbs]; simpa using hx))
                obtain ⟨Ac, cc, hvc, _, _⟩ := HLW.out.cells.form
                obtain ⟨nc, hnc⟩ : ∃ nc, nc = (leafC (l.take q) R).length := ⟨_, rfl⟩
                have hnc6 : nc ≤ 6 := by rw [hnc, leafC_len, List.length_take]; omega
                rw [← hnc] at hvc
                have hp0 : ∀ p' : Dc.Past bs W, p'.val.cell? ⟨xb, 1, none⟩ = some (.slice Ac nc cc) := fun p' => (p'.ok.cell (lt_of_block HLW.out.box) hn1).trans (by rw [← hvc]; exact cell_at HLW.out.box 1 vc rfl)
                have hp1 : ∀ p' : Dc.Past bs W, p'.val.cell? (ad'.add (q * 2)) = some (.string e'.k) := fun p' => (p'.ok.cell (by rw [block_of_add]; exact lt_of_block hhW) (by rw [block_of_add]; exact hn2)).trans q0
                have hp2 : ∀ p' : Dc.Past bs W, p'.val.cell? ⟨(ad'.add (q * 2)).block, (ad'.add (q * 2)).off + 1, none⟩ = some (.string e'.v) := fun p' => (p'.ok.cell (by simp only [block_of_add]; exact lt_of_block hhW) (by simp only [block_of_add]; exact hn2)).trans q1
                have hp6 : ∀ p' : Dc.Past bs W, p'.val.cell? (ad6.add at_) = some (.int .i64 z6) := fun p' => (p'.ok.cell (by rw [block_of_add]; exact lt_of_block hh6) (by rw [block_of_add]; exact hn6)).trans q6
                obtain ⟨xc, hxc⟩ : ∃ xc : PC, xc = ⟨e'.k, ⟨#[]⟩, (e'.v.size : Int), z6⟩ := ⟨_, rfl⟩
                have hcell : cellOf e' (R.drop (pieces (l.take q))) = xc := by
                  unfold cellOf
                  rw [if_neg HC0.out, ← HAT.out, hg6, hxc]
                  rfl
                have hpx : (pcC xc).toArray = #[.string e'.k, .string ⟨#[]⟩, .int .i64 (e'.v.size : Int), .int .i64 z6] := by rw [hxc]; rfl
                have hba : Below W.heap.size W (W.alloc (.cells (pcC xc).toArray 179)) := (Below.refl _ _).alloc (Nat.le_refl _) _
                obtain ⟨vc', w4, hr4, ho4, hg4⟩ := run_append_one encC 139 179 139 _ _ ⟨_, Tryz.underlying139, rfl⟩ infoRfC rfl (by omega) (by omega) (by omega) HLW.out.cells xc (by omega) HLW.out.rw.pst.1
                obtain ⟨⟨hst, hpc⟩, hb4⟩ := HLW.out.step HP1.out (Below.refl _ _) ho4 hg4
                obtain ⟨A4, c4, hv4, _, _⟩ := ho4.form
                obtain ⟨n4, hn4⟩ : ∃ n4, n4 = (leafC (l.take q) R ++ [xc]).length := ⟨_, rfl⟩
                rw [← hn4] at hv4
                rw [hvc] at hr4 hb4
                rw [hpx] at hr4 hg4 hba
                have d4 := cell_at hb4 1 (.slice Ac nc cc) rfl
                have f4 := free_at hb4 1
                have HST : Hid (Lf wb w (w4.setCell ⟨xb, 1, none⟩ vc') pb xb vo vn vw2 vc' (j + pieces l + 2 + 1) Nw (ws ++ (leafD (l.take (q + 1)) R).map encOf) (leafC (l.take (q + 1)) R)) := Lib.hid (by
                  rw [HCS.out, hcell]
                  exact hst)
                have HOW2 : Hid (OwnI (w4.setCell ⟨xb, 1, none⟩ vc') w.heap.size (.slice (some ad6) nR c6) R) := Lib.hid (hpc.own (HO.out.below hdW) (by decide) (by decide) (by decide))
                obtain ⟨an, han⟩ : ∃ an, an = pieces (l.take (q + 1)) := ⟨_, rfl⟩
                have hand : an = at_ + d := by
                  have := HSNO.out
                  rw [HM8.out, ← han, ← HAT.out] at this
                  exact this
                have hadd : wrap64 ((at_ : Int) + (d : Int)) = (an : Int) := wr64 (by rw [hand]; exact (Int.natCast_add _ _).symm) (by rw [hand]; exact Nat.le_trans hle (Nat.le_trans hnR5 (by decide)))
                have hrw := cell_row_run W xc
                rw [hpx] at hrw
                have HRW := Lib.hid hrw
                clear hrw
                have HADD := Lib.hid hadd
                have HAND := Lib.hid hand
                have HD4 := Lib.hid d4
                have HF4 := Lib.hid f4
                have HAN := Lib.hid han
                have HR4 := Lib.hid hr4
                have HG4 := Lib.hid hg4
                have HBA := Lib.hid hba
                have HV4 := Lib.hid hv4
                clear hadd hand d4 f4 hdW hW hhW hbs hn1 hn2 hn6 hvc hnc hba hr4 ho4 hg4 hst hpc hb4 hv4 hn4 hcell hh6 q0 q1 q6 hc6 hz6 hg6 hA' hx' hxc hpx han hmi HL HO HS
                go_wp2_with fail
                refine Dc.wp_region_segs 21 bs [([0, 1, 2, 3, 4, 5, 6, 7, 8, 9, 10, 11, 12, 13, 14, 15, 16, 17], 18), ([], 19), ([20], 21)] [] (by kernel_rfl) (by kernel_rfl) (by kernel_rfl) (by kernel_rfl) (by kernel_rfl) (by intro c a d v w h; cases d <;> exact h) ?_
                rw [← HW.out]
                refine Dc.wpSegs_more ?_
                simp only [Dc.pick, List.getElem?_cons_zero, List.getElem?_cons_succ]
                repeat (first | go_big_quiet_step (fail) | quiet_step (fail))
                refine wpQuiet_nil ?_
                clear hp0 hp1 hp2 hp6
                refine Dc.wpOp_heavy rfl (by rfl) (fun Q hQ => ?_)
                refine rf_oper_run (.slice (some ⟨W.heap.size, 0, none⟩) 1 1) (w' := W.alloc (.cells #[.string e'.k, .string ⟨#[]⟩, .int .i64 (e'.v.size : Int), .int .i64 z6] 179)) ?_ (hQ _ _ (fun _ => Dc.But.of_below HBA.out) ?_)
                · have := HRW.out
                  unfold execOp
                  simp only [Act.eval, Array.getD_eq_getD_getElem?, List.getElem?_toArray, List.getElem?_cons_succ, List.getElem?_cons_zero, Option.getD_some, Sem.run_bind, Sem.run_pure, Result.andThen_ok, List.map_toArray, List.map_cons, List.map_nil, this]
                simp only [Act.put]
                clear hQ Q
                refine Dc.wpSegs_more ?_
                simp only [Dc.pick]
                refine wpQuiet_nil ?_
                refine Dc.wpOp_heavy rfl (by rfl) (fun Q hQ => ?_)
                refine oper_append_ran (.tmp 109) (.tmp 126) 139 rfl _ _ _ _ rfl rfl HR4.out ?_
                refine hQ _ _ (fun _ => ⟨HG4.out.size, fun q hq hn => HG4.out.block q hq fun e => HBS.out q hn (by rw [← e])⟩) ?_
                clear hQ Q
                refine Dc.wpSegs_more ?_
                simp only [Dc.pick, List.getElem?_cons_zero, List.getElem?_cons_succ]
                repeat (first | go_big_quiet_step (fail) | quiet_step (fail))
                refine wpQuiet_nil ?_
                refine Dc.wpOp_heavy rfl (by rfl) (fun Q hQ => ?_)
                rw [HV4.out] at HST HOW2 ⊢
                have d4 := HD4.out
                have f4 := HF4.out
                go_simp
                refine hQ _ _ (fun h => absurd rfl h) ?_
                clear hQ Q d4 f4
                refine Dc.wpSegs_last ?_
                simp only [Dc.pick]
                refine wpQuiet_nil ?_
                have hadd := HADD.out
                have hqi := HQI.out
                go_wp2
                exact ⟨⟨q + 1, _, _, by omega, by go_num, by rw [← HAN.out, HAND.out]; rfl, HST, HOW2⟩, by simp [intOf]; omega⟩
        · have hqe : q = i := by omega
          subst hqe
          rw [List.take_of_length_le (by rw [HN.out]; exact Nat.le_refl _)] at HL
          obtain ⟨w5, hw5⟩ : ∃ x, x = wr := ⟨_, rfl⟩
          subst hw5
          obtain ⟨Ac, cc, hvc, _, _⟩ := HL.out.cells.form
          obtain ⟨nc, hnc⟩ : ∃ nc, nc = (leafC l R).length := ⟨_, rfl⟩
          rw [← hnc] at hvc
          subst hvc
          have hx := HL.out.box
          have c0 := cell_at hx 0 _ rfl
          have c1 := cell_at hx 1 _ rfl
          have c2 := cell_at hx 2 _ rfl
          have c3 := cell_at hx 3 _ rfl
          have c4 := cell_at hx 4 _ rfl
          have hlc := row_ls HL.out.cells
          have hmem : ((ow, leafP l R) : Int × PP) ∈ leafD l (ups j (pieces l)) ++ [(((j + pieces l + 2 : Nat) : Int), leafP l (ups j (pieces l)))] := by rw [HOW.out, HRR.out]; simp
          have hok := HOK.out _ hmem
          have hw := rfWrite_any (i := ow) (leafP l R) Ac none cc 0 HL.out.rw.bel hpb HL.out.rw.rp (by
            have h1 := leafD_len l R
            rw [List.length_append, List.length_map, h1]
            omega) hlc (Ls.nil _ _) hok.2 hok.1
          rw [show pageV (leafP l R) Ac cc none 0 = .agg #[.int .i64 1, .slice Ac nc cc, .slice none 0 0, .string ⟨#[]⟩, .int .i64 0] by rw [hnc]; rfl] at hw
          have HWR := Lib.hid hw
          clear hx hlc hmem hok hw hnc
          go_wp2_with fail
          refine HWR.out.mono ?_
          rintro x w6 ⟨rfl, vw3, hrp, hbl, hps⟩
          have HF6 := Lib.hid (HL.out.rw.next hrp hbl hps)
          have HO6 := Lib.hid (hps.own HO.out (by decide) (by decide) (by decide))
          have hba : Below w6.heap.size w6 (w6.alloc (.cells #[.int .i64 ow] 3)) := (Below.refl _ _).alloc (Nat.le_refl _) _
          obtain ⟨v7, w7, hr7, ho7, hg7⟩ := run_append_ls ienc 38 3 38 _ _ ⟨_, Tryz.underlying38, rfl⟩ intInfo rfl (by omega) (by omega) (ownL_new ienc 3 w6 [ow] (by simp) (by omega)) nR c6 ((row_ls HO6.out).below hba) HRL.out (by simp; omega) (Nat.le_trans (Nat.le_refl _) hba.size)
          have hg7' : Below w6.heap.size w6 w7 := hba.grown hg7 hba.size (fun q hq => by
            simp [Value.ownBlock] at hq
            omega)
          obtain ⟨A7, c7, hv7, _, _⟩ := ho7.form
          obtain ⟨n7, hn7⟩ : ∃ n7, n7 = ([ow] ++ R).length := ⟨_, rfl⟩
          rw [← hn7] at hv7
          subst hv7
          have HO7 : Hid (OwnI w7 w.heap.size (.slice A7 n7 c7) (((j + pieces l + 2 : Nat) : Int) :: ups j (pieces l))) := Lib.hid (by
            rw [← HOW.out, ← HRR.out]
            exact ho7.mono HF6.out.pst.1)
          have HF7 : Hid (RW wb w w7 pb vo vn vw3 (j + pieces l + 3) Nw (ws ++ (leafD l (ups j (pieces l)) ++ [(((j + pieces l + 2 : Nat) : Int), leafP l (ups j (pieces l)))]).map encOf)) := Lib.hid (by
            rw [← HOW.out, ← HRR.out, List.map_append, ← List.append_assoc]
            exact HF6.out.below hg7')
          have HR7 := Lib.hid hr7
          clear hrp hbl hps hba hr7 ho7 hg7 hg7' hn7 c0 c1 c2 c3 c4
          go_wp2_with (at_builtin; refine wpList_append_ran rfl (.tmp 139) (.tmp 140) 38 rfl _ _ _ _ rfl rfl HR7.out ?_)
          go_ret
          exact ⟨_, _, rfl, HO7.out, HF7.out⟩

end Go.Proofs.YtelenboncejdaaaGreatDoor
