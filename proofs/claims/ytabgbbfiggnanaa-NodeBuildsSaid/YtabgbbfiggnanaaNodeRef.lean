/-
  The contracts of the reference's Branch and Of; conditions: the slice of kids can be read, heights are 1 or more and small.
-/
import Derived.Test.YtabgbbfiggnanaaNodeFew
import Derived.Test.YtabgbbfiggnanaaDrawnC
namespace Go.Proofs.Ytabgbbfiggnanaa
open Go.RowKit Go.Sort
set_option linter.unusedVariables false
set_option linter.unusedSimpArgs false

set_option maxRecDepth 100000 in
set_option maxHeartbeats 2000000 in
theorem refBranch_any (A : Option Addr) (n c : Nat) (l : List KR) (w : World) (hr : Ls pcKd w A l) (hn : l.length = n) (hb : n ≤ 1000000) (hh : ∀ k ∈ l, 1 ≤ k.h) :
    Calls Try.prog 17 #[.slice A n c] w fun e w' => e = .returned (.bool (okBr l)) ∧ Below w.heap.size w w' := by
  have Hn := Lib.hid hn
  have HH := Lib.hid hh
  clear hn hh
  by_cases h2 : n < 2
  · rw [okBr_short (by rw [Hn.out]; exact h2)]
    go_enter Try.func17, Try.ntmps17
    go_wp2
    go_ret
    exact ⟨rfl, Below.refl _ _⟩
  by_cases h6 : 6 < n
  · rw [okBr_long (by rw [Hn.out]; exact h6)]
    go_enter Try.func17, Try.ntmps17
    go_wp2
    go_ret
    exact ⟨rfl, Below.refl _ _⟩
  obtain ⟨r, hR⟩ : ∃ r, r = okBr l := ⟨_, rfl⟩
  rw [← hR]
  have HR := Lib.hid hR
  clear hR
  obtain ⟨x0, hx0⟩ : ∃ x, l[0]? = some x := ⟨_, List.getElem?_eq_getElem (by rw [Hn.out]; omega)⟩
  have HX0 := Lib.hid hx0
  have h10 := HH.out x0 (List.mem_of_getElem? hx0)
  obtain ⟨h0, hh0⟩ : ∃ h0, h0 = x0.h := ⟨_, rfl⟩
  rw [← hh0] at h10
  have HH0 := Lib.hid hh0
  clear hx0 hh0
  go_enter Try.func17, Try.ntmps17
  go_wp2
  simp only [show decide ((n : Int) < 2) = false from decide_eq_false (by omega), show decide ((6 : Int) < n) = false from decide_eq_false (by omega), Bool.or_self]
  go_loopw [14] (fun i wr => ∃ k : Nat, k ≤ n ∧ i = .int .i64 k ∧ Below w.heap.size w wr ∧ Hid (∀ (j : Nat) (a b : KR), j + 1 < k → l[j]? = some a → l[j + 1]? = some b → a.h = b.h ∧ kl a.hi b.lo)) (fun i _ => n - (intOf i).toNat)
  case atStart => exact ⟨0, Nat.zero_le _, rfl, Below.refl _ _, Lib.hid fun j _ _ hj => absurd hj (by omega)⟩
  case round =>
    obtain ⟨k, hk, rfl, hbw, HG⟩ := hrel
    by_cases hlt : k < n
    · obtain ⟨ad, z, rfl, hz, hl, z0, _, _, _, _⟩ := (hr.below hbw).kid_at (i := 0) (by rw [Hn.out]; omega)
      rw [HX0.out] at hz
      cases hz
      rw [show 0 * 5 = 0 from rfl, show ad.add 0 = ad by simp [Addr.add], ← HH0.out] at z0
      cases k with
      | zero =>
        have hq1 : ((h0 : Int) == 0) = false := by simp only [beq_eq_false_iff_ne, ne_eq]; omega
        go_wp2
        go_quiet (fail)
        go_wp2
        exact ⟨⟨1, by omega, by go_num, below_drewN hbw _, Lib.hid fun j _ _ hj => absurd hj (by omega)⟩, by simp [intOf]; omega⟩
      | succ k =>
        obtain ⟨ad', x, e', hx, _, x0', x1, x2, _, _⟩ := (hr.below hbw).kid_at (i := k) (by rw [Hn.out]; omega)
        cases e'
        obtain ⟨ad', y, e', hy, _, y0, y1, y2, _, _⟩ := (hr.below hbw).kid_at (i := k + 1) (by rw [Hn.out]; omega)
        cases e'
        have hy1 := HH.out y (List.mem_of_getElem? hy)
        have HX := Lib.hid hx
        have HY := Lib.hid hy
        clear hx hy x0' x1 y2
        have HFX := Lib.hid (show x.h = x0.h from adj_first HX0.out k x (fun j a b hj ha hb => HG.out j a b (by omega) ha hb) HX.out)
        obtain ⟨xh, xlo, xhi, xf, xe⟩ := x
        obtain ⟨yh, ylo, yhi, yf, ye⟩ := y
        simp only at *
        have hq1 : ((yh : Int) == 0) = false := by simp only [beq_eq_false_iff_ne, ne_eq]; omega
        by_cases hq : yh = h0
        · subst hq
          have hle := less_eq xhi ylo
          by_cases hd : kl xhi ylo
          · rw [decide_eq_true hd] at hle
            go_wp2
            go_quiet (fail)
            go_wp2
            refine ⟨⟨k + 1 + 1, by omega, by go_num, below_drewN hbw _, Lib.hid fun j a b hj ha hbb => ?_⟩, by simp [intOf]; omega⟩
            rcases Nat.lt_or_ge j k with hjk | hjk
            · exact HG.out j a b (by omega) ha hbb
            · have : j = k := by omega
              subst this
              rw [HX.out] at ha
              rw [HY.out] at hbb
              cases ha; cases hbb
              exact ⟨HFX.out.trans HH0.out.symm, hd⟩
          · rw [decide_eq_false hd] at hle
            go_wp2
            go_quiet (fail)
            go_wp2
            go_ret
            rw [HR.out, okBr_bad HX.out HY.out fun h => hd h.2]
            exact ⟨rfl, below_drewN hbw _⟩
        · have hq2 : ((yh : Int) != (h0 : Int)) = true := by simp only [bne_iff_ne, ne_eq]; omega
          go_wp2
          go_quiet (fail)
          go_wp2
          go_ret
          rw [HR.out, okBr_bad HX.out HY.out fun h => hq (h.1.symm.trans (HFX.out.trans HH0.out.symm))]
          exact ⟨rfl, below_drewN hbw _⟩
    · have he : k = n := by omega
      subst he
      go_wp2
      go_ret
      rw [HR.out, okBr_good (by rw [Hn.out]; omega) (by rw [Hn.out]; omega) fun j a b ha hbb => HG.out j a b (by have := (List.getElem?_eq_some_iff.1 hbb).1; rw [Hn.out] at this; omega) ha hbb]
      exact ⟨rfl, hbw⟩

/-- Five cells written, one after the other. -/
theorem set_five {w : World} {g : Nat} {t : TypeId} {a b c d e : Value} (h : w.heap[g]? = some (.cells #[a, b, c, d, e] t (0, 0))) (a' b' c' d' e' : Value) :
    (((((w.setCell ⟨g, 0, none⟩ a').setCell ⟨g, 1, none⟩ b').setCell ⟨g, 2, none⟩ c').setCell ⟨g, 3, none⟩ d').setCell ⟨g, 4, none⟩ e').heap[g]? = some (.cells #[a', b', c', d', e'] t (0, 0)) := by
  have h1 := blk_set (blk_set (blk_set (blk_set (blk_set h 0 a') 1 b') 2 c') 3 d') 4 e'
  simpa using h1
theorem all_more {l : List KR} {k : Nat} {x : KR} (h : l[k]? = some x) : (l.take (k + 1)).all goodK = ((l.take k).all goodK && goodK x) := by
  rw [List.take_add_one, h]
  simp

set_option maxRecDepth 100000 in
set_option maxHeartbeats 2000000 in
theorem of_any (A : Option Addr) (n c : Nat) (l : List KR) (w : World) (hr : Ls pcKd w A l) (hn : l.length = n) (h2 : 2 ≤ n) (hb : n ≤ 1000000) (hh : ∀ k ∈ l, k.h ≤ 1000000) :
    Calls Try.prog 18 #[.slice A n c] w fun e w' => e = .returned (kidV (ofK l)) ∧ Below w.heap.size w w' := by
  have Hn := Lib.hid hn
  have HH := Lib.hid hh
  clear hn hh
  obtain ⟨ad, x, rfl, hx, hl, x0, x1, _, _, _⟩ := hr.kid_at (i := 0) (by rw [Hn.out]; omega)
  obtain ⟨ad', y, e', hy, _, _, _, y2, _, _⟩ := hr.kid_at (i := n - 1) (by rw [Hn.out]; omega)
  cases e'
  rw [show 0 * 5 = 0 from rfl, show ad.add 0 = ad by simp [Addr.add]] at x0 x1
  have HOF := Lib.hid (show ofK l = ⟨x.h + 1, x.lo, y.hi, l.all goodK, decide (3 ≤ n)⟩ by
    unfold ofK
    rw [headD_at hx, lastD_at hy (by rw [Hn.out]; omega), Hn.out])
  have hxh := HH.out x (List.mem_of_getElem? hx)
  clear hx hy
  obtain ⟨xh, xlo, xhi, xf, xe⟩ := x
  obtain ⟨yh, ylo, yhi, yf, ye⟩ := y
  simp only at *
  obtain ⟨w1, hw1⟩ : ∃ w1, w1 = w.alloc (.cells #[.int .i64 0, .string ⟨#[]⟩, .string ⟨#[]⟩, .bool false, .bool false] 38) := ⟨_, rfl⟩
  have hb1 : Below w.heap.size w w1 := by rw [hw1]; exact (Below.refl _ _).alloc (Nat.le_refl _) _
  obtain ⟨W, hW⟩ : ∃ W, W = w1.drew := ⟨_, rfl⟩
  have hbW : Below w.heap.size w W := bthen hb1 (by rw [hW]; exact (Below.refl _ _).drew)
  have hbox : W.heap[w.heap.size]? = some (.cells #[.int .i64 0, .string ⟨#[]⟩, .string ⟨#[]⟩, .bool false, .bool false] 38 (0, 0)) := by rw [hW, hw1]; exact heap_alloc_new w _
  have hlW : ad.block < W.heap.size := Nat.lt_of_lt_of_le hl hbW.size
  have p0 : W.cell? ad = some (.int .i64 (xh : Int)) := (hbW.cell hl).trans x0
  have p1 : W.cell? ⟨ad.block, ad.off + 1, none⟩ = some (.string xlo) := (hbW.cell (p := ⟨ad.block, ad.off + 1, none⟩) hl).trans x1
  have p2 : W.cell? ⟨(ad.add ((n - 1) * 5)).block, (ad.add ((n - 1) * 5)).off + 2, none⟩ = some (.string yhi) := (hbW.cell (p := ⟨(ad.add ((n - 1) * 5)).block, (ad.add ((n - 1) * 5)).off + 2, none⟩) (by show (ad.add ((n - 1) * 5)).block < _; rw [block_of_add]; exact hl)).trans y2
  have f0 : ∀ q : Dc.Past [] W, q.val.cell? ad = some (.int .i64 (xh : Int)) := fun q => (q.ok.cell hlW (by simp)).trans p0
  have f1 : ∀ q : Dc.Past [] W, q.val.cell? ⟨ad.block, ad.off + 1, none⟩ = some (.string xlo) := fun q => (q.ok.cell (p := ⟨ad.block, ad.off + 1, none⟩) hlW (by simp)).trans p1
  have f2 : ∀ q : Dc.Past [] W, q.val.cell? ⟨(ad.add ((n - 1) * 5)).block, (ad.add ((n - 1) * 5)).off + 2, none⟩ = some (.string yhi) := fun q => (q.ok.cell (p := ⟨(ad.add ((n - 1) * 5)).block, (ad.add ((n - 1) * 5)).off + 2, none⟩) (by show (ad.add ((n - 1) * 5)).block < _; rw [block_of_add]; exact hlW) (by simp)).trans p2
  have HW1 := Lib.hid hw1
  have HW := Lib.hid hW
  have HBW := Lib.hid hbW
  have HBOX := Lib.hid hbox
  clear hw1 hW hbW hbox p0 p1 p2 x0 x1 y2 hb1
  go_enter Try.func18, Try.ntmps18
  go_wp2_with fail
  rw [← HW1.out]
  refine Dc.wp_region_segs 21 [] [([0, 1, 2, 3, 4, 5, 6, 7, 8, 9, 10, 11, 12, 13, 14, 15, 16, 17, 18, 19], 20), ([], 21)] [] (by kernel_rfl) (by kernel_rfl) (by kernel_rfl) (by kernel_rfl) (by kernel_rfl) (by intro c a d v w h; cases d <;> exact h) ?_
  rw [← HW.out]
  refine Dc.wpSegs_more ?_
  simp only [Dc.pick, List.getElem?_cons_zero, List.getElem?_cons_succ]
  repeat (first | go_big_quiet_step (fail) | quiet_step (fail))
  refine wpQuiet_nil ?_
  refine Dc.wpOp_heavy rfl (by rfl) (fun K hK => ?_)
  go_simp
  refine hK _ _ (fun _ => Dc.But.of_below ((Below.refl _ _).alloc (Nat.le_refl _) _)) ?_
  clear hK K
  refine Dc.wpSegs_more ?_
  simp only [Dc.pick]
  refine wpQuiet_nil ?_
  refine Dc.wpOp_heavy rfl (by rfl) (fun K hK => ?_)
  go_simp
  have HN3 := Lib.hid (show decide ((3 : Int) ≤ (n : Int)) = decide (3 ≤ n) from decide_eq_decide.2 (by omega))
  rw [HN3.out]
  generalize decide (3 ≤ n) = en at HOF ⊢
  rw [show ((xh : Int) + 1) = ((xh + 1 : Nat) : Int) by omega]
  generalize xh + 1 = xs at HOF ⊢
  obtain ⟨w2, hw2⟩ : ∃ w2, w2 = W.alloc (.cells #[.int .i64 (xs : Int), .string xlo, .string yhi, .bool true, .bool en] 38) := ⟨_, rfl⟩
  have hb2 : Below W.heap.size W w2 := by rw [hw2]; exact (Below.refl _ _).alloc (Nat.le_refl _) _
  have HB2 := Lib.hid (bthen HBW.out hb2)
  have HBX2 := Lib.hid ((hb2.block _ (lt_of_block HBOX.out)).trans HBOX.out)
  have HBX3 := Lib.hid (show w2.heap[W.heap.size]? = some (.cells #[.int .i64 (xs : Int), .string xlo, .string yhi, .bool true, .bool en] 38 (0, 0)) by rw [hw2]; exact heap_alloc_new W _)
  have hne : w.heap.size < W.heap.size := lt_of_block HBOX.out
  rw [← hw2]
  refine hK _ _ (fun h => absurd rfl h) ?_
  clear hK K hw2 hb2 f0 f1 f2 HBW HBOX HN3 HW HW1 hlW
  refine Dc.wpSegs_last ?_
  simp only [Dc.pick]
  refine wpQuiet_nil ?_
  generalize W.heap.size = g3 at *
  go_wp2
  go_loopw [27] (fun i wr => ∃ k : Nat, k ≤ n ∧ i = .int .i64 k ∧ Hid (Below w.heap.size w wr ∧ wr.heap[w.heap.size]? = some (.cells #[.int .i64 0, .string ⟨#[]⟩, .string ⟨#[]⟩, .bool false, .bool false] 38 (0, 0)) ∧ wr.heap[g3]? = some (.cells #[.int .i64 (xs : Int), .string xlo, .string yhi, .bool ((l.take k).all goodK), .bool en] 38 (0, 0)))) (fun i _ => n - (intOf i).toNat)
  case atStart => exact ⟨0, Nat.zero_le _, rfl, Lib.hid ⟨HB2.out, HBX2.out, HBX3.out⟩⟩
  case round =>
    obtain ⟨k, hk, rfl, HQ⟩ := hrel
    clear HB2 HBX2 HBX3
    by_cases hlt : k < n
    · obtain ⟨ad', z, e', hz, _, _, _, _, z3, z4⟩ := (hr.below HQ.out.1).kid_at (i := k) (by rw [Hn.out]; exact hlt)
      cases e'
      have hall := all_more hz
      have HALL := Lib.hid hall
      have hc3 := cell_row HQ.out.2.2 3 (.bool ((l.take k).all goodK)) rfl
      have hf3 : wr.frozen? ⟨g3, 3, none⟩ = false := by simp [World.frozen?, HQ.out.2.2]
      have HGZ := Lib.hid (show goodK z = (z.full && z.enough) from rfl)
      clear hz hall
      generalize goodK z = gz at *
      generalize z.full = zf at *
      generalize z.enough = ze at *
      have HS : ∀ v, Hid (v = ((l.take k).all goodK && gz) → Below w.heap.size w (wr.setCell ⟨g3, 3, none⟩ (.bool v)) ∧ (wr.setCell ⟨g3, 3, none⟩ (.bool v)).heap[w.heap.size]? = some (.cells #[.int .i64 0, .string ⟨#[]⟩, .string ⟨#[]⟩, .bool false, .bool false] 38 (0, 0)) ∧ (wr.setCell ⟨g3, 3, none⟩ (.bool v)).heap[g3]? = some (.cells #[.int .i64 (xs : Int), .string xlo, .string yhi, .bool ((l.take (k + 1)).all goodK), .bool en] 38 (0, 0))) := fun v => Lib.hid fun hv => by
        refine ⟨below_set HQ.out.1 (p := ⟨g3, 3, none⟩) (Nat.le_of_lt hne) _, (Below.heap_setCell wr _ _ _ (by show w.heap.size ≠ g3; omega)).trans HQ.out.2.1, ?_⟩
        rw [HALL.out, ← hv]
        exact (blk_set HQ.out.2.2 3 _).trans (by simp)
      clear HALL HQ
      generalize (l.take k).all goodK = f at *
      cases f <;> cases zf <;> cases ze <;> (
        go_wp2
        refine ⟨⟨k + 1, by omega, by go_num, Lib.hid ((HS _).out ?_)⟩, by simp [intOf]; omega⟩
        rw [HGZ.out]
        rfl)
    · have he : k = n := by omega
      subst he
      have hq3 := HQ.out.2.2
      have hq2 := HQ.out.2.1
      rw [List.take_of_length_le (by rw [Hn.out]; exact Nat.le_refl _)] at hq3
      generalize l.all goodK = f at *
      have a0 := cell_row hq3 0 (.int .i64 (xs : Int)) rfl
      have a1 := cell_row hq3 1 (.string xlo) rfl
      have a2 := cell_row hq3 2 (.string yhi) rfl
      have a3 := cell_row hq3 3 (.bool f) rfl
      have a4 := cell_row hq3 4 (.bool en) rfl
      have b0 := cell_row hq2 0 (.int .i64 0) rfl
      have b1 := cell_row hq2 1 (.string ⟨#[]⟩) rfl
      have b2 := cell_row hq2 2 (.string ⟨#[]⟩) rfl
      have b3 := cell_row hq2 3 (.bool false) rfl
      have b4 := cell_row hq2 4 (.bool false) rfl
      have fz : ∀ j, wr.frozen? ⟨w.heap.size, j, none⟩ = false := fun j => by simp [World.frozen?, hq2]
      have fz0 := fz 0
      have fz1 := fz 1
      have fz2 := fz 2
      have fz3 := fz 3
      have fz4 := fz 4
      have HS := Lib.hid (set_five hq2 (.int .i64 (xs : Int)) (.string xlo) (.string yhi) (.bool f) (.bool en))
      have HBE := Lib.hid (below_set (below_set (below_set (below_set (below_set HQ.out.1 (p := ⟨w.heap.size, 0, none⟩) (Nat.le_refl _) (.int .i64 (xs : Int))) (p := ⟨w.heap.size, 1, none⟩) (Nat.le_refl _) (.string xlo)) (p := ⟨w.heap.size, 2, none⟩) (Nat.le_refl _) (.string yhi)) (p := ⟨w.heap.size, 3, none⟩) (Nat.le_refl _) (.bool f)) (p := ⟨w.heap.size, 4, none⟩) (Nat.le_refl _) (.bool en))
      clear hq2 hq3 HQ fz
      go_wp2
      refine bodyPost_ret (v := .agg #[.int .i64 (xs : Int), .string xlo, .string yhi, .bool f, .bool en]) ?_ rfl ⟨?_, HBE.out⟩
      · have k0 := cell_row HS.out 0 (.int .i64 (xs : Int)) rfl
        have k1 := cell_row HS.out 1 (.string xlo) rfl
        have k2 := cell_row HS.out 2 (.string yhi) rfl
        have k3 := cell_row HS.out 3 (.bool f) rfl
        have k4 := cell_row HS.out 4 (.bool en) rfl
        simp [results, Try.results18, go_sem, k0, k1, k2, k3, k4]
      · rw [HOF.out]
        rfl

end Go.Proofs.Ytabgbbfiggnanaa
