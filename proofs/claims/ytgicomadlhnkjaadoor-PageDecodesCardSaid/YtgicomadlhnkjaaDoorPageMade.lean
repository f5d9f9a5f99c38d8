/-
  The contract of the law's helper made: the same page of the program's type; conditions: its slices can be read, it is small.
-/
import Derived.Test.YtgicomadlhnkjaaDoorPageFew
import Derived.Test.YtgicomadlhnkjaaDoorPairRoom
namespace Go.Proofs.YtgicomadlhnkjaaDoor
open Go.RowKit Go.Sort
set_option linter.unusedVariables false

/-- A page by value, that can be read. -/
def PgPost (w : World) (p : PP) (e : Ending) (w' : World) : Prop := ∃ A a B b, e = .returned (pageV p A a B b) ∧ Ls pcC w' A p.cells ∧ Ls pcK w' B p.kids ∧ Below w.heap.size w w'
theorem cell_at {w : World} {g : Nat} {cs : Array Value} {t : TypeId} (h : w.heap[g]? = some (.cells cs t (0, 0))) (j : Nat) (u : Value) (hu : cs[j]? = some u) : w.cell? ⟨g, j, none⟩ = some u := (cell_of_block h j).trans hu
theorem free_at {w : World} {g : Nat} {cs : Array Value} {t : TypeId} (h : w.heap[g]? = some (.cells cs t (0, 0))) (j : Nat) : w.frozen? ⟨g, j, none⟩ = false := by simp [World.frozen?, h]

theorem infoMadeC : (Tryd.prog.info? 57).map (fun i => (i.zero, i.size, i.bytes)) = some (some (.agg #[.string ByteArray.empty, .string ByteArray.empty, .int .i64 0, .int .i64 0]), 4, 48) := by kernel_rfl
theorem infoMadeK : (Tryd.prog.info? 58).map (fun i => (i.zero, i.size, i.bytes)) = some (some (.agg #[.string ByteArray.empty, .int .i64 0]), 2, 24) := by kernel_rfl

/-- The three boxes while made runs. -/
structure MadeAt (w : World) (pk : Int) (pp : ByteArray) (pn : Int) (A B : Option Addr) (n a m b : Nat) (v u : Value) (wr : World) : Prop where
  h0 : wr.heap[w.heap.size]? = some (.cells #[.int .i64 pk, .slice A n a, .slice B m b, .string pp, .int .i64 pn] 25 (0, 0))
  h1 : wr.heap[w.heap.size + 1]? = some (.cells #[.int .i64 0, .slice none 0 0, .slice none 0 0, .string ByteArray.empty, .int .i64 0] 35 (0, 0))
  h2 : wr.heap[w.heap.size + 1 + 1]? = some (.cells #[.int .i64 pk, v, u, .string pp, .int .i64 pn] 35 (0, 0))
  sz : w.heap.size + 3 ≤ wr.heap.size
  bel : Below w.heap.size w wr

theorem made_start (w : World) (pk : Int) (pp : ByteArray) (pn : Int) (A B : Option Addr) (n a m b : Nat) : MadeAt w pk pp pn A B n a m b (.slice none 0 0) (.slice none 0 0)
    (((w.alloc (.cells #[.int .i64 pk, .slice A n a, .slice B m b, .string pp, .int .i64 pn] 25)).alloc (.cells #[.int .i64 0, .slice none 0 0, .slice none 0 0, .string ByteArray.empty, .int .i64 0] 35)).alloc (.cells #[.int .i64 pk, .slice none 0 0, .slice none 0 0, .string pp, .int .i64 pn] 35)) := by
  refine ⟨?_, ?_, ?_, by simp, ?_⟩
  · rw [Below.heap_alloc _ _ _ (by simp; omega), Below.heap_alloc _ _ _ (by simp)]
    exact heap_alloc_new w _
  · rw [Below.heap_alloc _ _ _ (by simp)]
    have := heap_alloc_new (w.alloc (.cells #[.int .i64 pk, .slice A n a, .slice B m b, .string pp, .int .i64 pn] 25)) (.cells #[.int .i64 0, .slice none 0 0, .slice none 0 0, .string ByteArray.empty, .int .i64 0] 35)
    simpa using this
  · have := heap_alloc_new ((w.alloc (.cells #[.int .i64 pk, .slice A n a, .slice B m b, .string pp, .int .i64 pn] 25)).alloc (.cells #[.int .i64 0, .slice none 0 0, .slice none 0 0, .string ByteArray.empty, .int .i64 0] 35)) (.cells #[.int .i64 pk, .slice none 0 0, .slice none 0 0, .string pp, .int .i64 pn] 35)
    simpa using this
  · have h1 : Below w.heap.size w (w.alloc (.cells #[.int .i64 pk, .slice A n a, .slice B m b, .string pp, .int .i64 pn] 25)) := (Below.refl _ _).alloc (Nat.le_refl _) _
    have h2 := h1.alloc h1.size (.cells #[.int .i64 0, .slice none 0 0, .slice none 0 0, .string ByteArray.empty, .int .i64 0] 35)
    exact h2.alloc h2.size _

set_option maxHeartbeats 4000000 in
set_option maxRecDepth 100000 in
theorem made_any (p : PP) (A B : Option Addr) (a b : Nat) (w : World) (hA : Ls pcC w A p.cells) (hB : Ls pcK w B p.kids) (hn40 : p.cells.length ≤ 1000) (hm40 : p.kids.length ≤ 1000) :
    Calls Tryd.prog 12 #[pageV p A a B b] w (PgPost w p) := by
  obtain ⟨n, hn⟩ : ∃ n, n = p.cells.length := ⟨_, rfl⟩
  obtain ⟨m, hm⟩ : ∃ m, m = p.kids.length := ⟨_, rfl⟩
  have hst := made_start w p.kind p.piece p.next A B n a m b
  have hpost : ∀ (A' B' : Option Addr) (a' b' : Nat) w', Ls pcC w' A' p.cells → Ls pcK w' B' p.kids → Below w.heap.size w w' → PgPost w p (.returned (.agg #[.int .i64 p.kind, .slice A' n a', .slice B' m b', .string p.piece, .int .i64 p.next])) w' := by
    intro A' B' a' b' w' h1 h2 h3
    refine ⟨A', a', B', b', ?_, h1, h2, h3⟩
    unfold pageV
    rw [hn, hm]
  unfold pageV
  generalize hpk : p.kind = pk at *
  generalize hpp : p.piece = pp at *
  generalize hpn : p.next = pn at *
  rw [← hn] at hn40 ⊢
  rw [← hm] at hm40 ⊢
  have Hn := Lib.hid hn
  have Hm := Lib.hid hm
  have HP := Lib.hid hpost
  have HST := Lib.hid hst
  generalize PgPost w p = Post at *
  clear hn hm hpost hst hpk hpp hpn
  go_enter Tryd.func12, Tryd.ntmps12
  go_wp2
  go_loopw [16] (fun i wr => ∃ (k : Nat) (v : Value), k ≤ n ∧ i = .int .i64 k ∧ MadeAt w pk pp pn A B n a m b v (.slice none 0 0) wr ∧ OwnL pcC 57 4 wr (w.heap.size + 3) v (p.cells.take k)) (fun i _ => n - (intOf i).toNat)
  case atStart => exact ⟨0, _, Nat.zero_le _, rfl, HST.out, OwnL.nil_ _ _ _⟩
  case round =>
    obtain ⟨k, v, hk, rfl, hat, hown⟩ := hrel
    have HAT := Lib.hid hat
    have HO := Lib.hid hown
    have hc01 := cell_at hat.h0 1 (.slice A n a) rfl
    have hc02 := cell_at hat.h0 2 (.slice B m b) rfl
    have hc21 := cell_at hat.h2 1 v rfl
    clear hat hown
    by_cases hlt : k < n
    · obtain ⟨ad, x, rfl, hx, hl, c0, c1, c2, c3⟩ := (hA.below HAT.out.bel).atC (i := k) (by rw [← Hn.out]; exact hlt)
      have hadw : ad.block < w.heap.size := by
        obtain ⟨ad', e, h, _⟩ := hA (by rw [← Hn.out]; omega)
        cases e
        exact h
      have Hx := Lib.hid hx
      clear hx
      obtain ⟨W, hW⟩ : ∃ W, W = wr.drew := ⟨_, rfl⟩
      have hszW : W.heap.size = wr.heap.size := by rw [hW]; rfl
      have hsz0 := HAT.out.sz
      have hOW : OwnL pcC 57 4 W (w.heap.size + 3) v (p.cells.take k) := by rw [hW]; exact HO.out
      have hWb : ∀ i : Nat, W.heap[i]? = wr.heap[i]? := fun i => by rw [hW]; rfl
      have hbW : Below w.heap.size w W := by rw [hW]; exact HAT.out.bel.drew
      have hob : ∀ i, i < w.heap.size + 3 → i ∉ v.ownBlock.toList := fun i hi hm => by
        have := HO.out.at_block i (by simpa using hm)
        omega
      have hpc : ∀ (q : Dc.Past v.ownBlock.toList W) (p : Addr) (u : Value), p.block < w.heap.size + 3 → wr.cell? p = some u → q.val.cell? p = some u := fun q p u hp hu => by
        refine (q.ok.cell (by omega) (hob _ hp)).trans ?_
        rw [hW]
        exact hu
      have q21 : ∀ q : Dc.Past v.ownBlock.toList W, q.val.cell? ⟨w.heap.size + 1 + 1, 1, none⟩ = some v := fun q => hpc q _ _ (by simp only; omega) hc21
      have q01 : ∀ q : Dc.Past v.ownBlock.toList W, q.val.cell? ⟨w.heap.size, 1, none⟩ = some (.slice (some ad) n a) := fun q => hpc q _ _ (by simp only; omega) hc01
      have qc0 : ∀ q : Dc.Past v.ownBlock.toList W, q.val.cell? (ad.add (k * 4)) = some (.string x.k) := fun q => hpc q _ _ (by rw [block_of_add]; omega) c0
      have qc1 : ∀ q : Dc.Past v.ownBlock.toList W, q.val.cell? ⟨(ad.add (k * 4)).block, (ad.add (k * 4)).off + 1, none⟩ = some (.string x.v) := fun q => hpc q _ _ (by simp only [block_of_add]; omega) c1
      have qc2 : ∀ q : Dc.Past v.ownBlock.toList W, q.val.cell? ⟨(ad.add (k * 4)).block, (ad.add (k * 4)).off + 2, none⟩ = some (.int .i64 x.sz) := fun q => hpc q _ _ (by simp only [block_of_add]; omega) c2
      have qc3 : ∀ q : Dc.Past v.ownBlock.toList W, q.val.cell? ⟨(ad.add (k * 4)).block, (ad.add (k * 4)).off + 3, none⟩ = some (.int .i64 x.st) := fun q => hpc q _ _ (by simp only [block_of_add]; omega) c3
      obtain ⟨v', w2, hrun, hown2, hg2⟩ := run_append_one encC 32 57 32 (.agg #[.string ByteArray.empty, .string ByteArray.empty, .int .i64 0, .int .i64 0]) 48 ⟨_, Tryd.underlying32, rfl⟩ infoMadeC rfl (by omega) (by omega) (by omega) hOW x (by rw [List.length_take]; omega) (by omega)
      have hrun' : (Builtin.append_ #[32, 32] 32 #[v, .slice (some ⟨W.heap.size, 0, none⟩) 1 1]).run Tryd.prog (W.alloc (.cells #[.string x.k, .string x.v, .int .i64 x.sz, .int .i64 x.st] 57)) = .ok v' w2 := hrun
      have hg2 : (W.alloc (.cells #[.string x.k, .string x.v, .int .i64 x.sz, .int .i64 x.st] 57)).grownBy w2 v.ownBlock := hg2
      obtain ⟨Av, nv, cv, hv'⟩ : ∃ A n c, v' = Value.slice A n c := by
        obtain ⟨A', c', h, _⟩ := hown2.form
        exact ⟨_, _, _, h⟩
      have HV' := Lib.hid hv'
      have HR := Lib.hid hrun'
      have hbA : Below W.heap.size W (W.alloc (.cells #[.string x.k, .string x.v, .int .i64 x.sz, .int .i64 x.st] 57)) := (Below.refl _ _).alloc (Nat.le_refl _) _
      have hbAw := bthen hbW hbA
      have hb2 : Below w.heap.size w w2 := hbAw.grown hg2 hbAw.size (fun q hq => by have := hOW.at_block q hq; omega)
      have hsz2 : W.heap.size ≤ w2.heap.size := Nat.le_trans hbA.size hg2.size
      have hk2 : ∀ i : Nat, i < w.heap.size + 3 → i < wr.heap.size → w2.heap[i]? = wr.heap[i]? := fun i hi hi2 => by
        rw [hg2.block i (Nat.lt_of_lt_of_le (by omega) hbA.size) (fun e => by have := hOW.at_block i e.symm; omega), hbA.block i (by omega), hWb]
      have hkeep : ∀ i : Nat, i < w.heap.size + 3 → i ≠ w.heap.size + 1 + 1 → (w2.setCell ⟨w.heap.size + 1 + 1, 1, none⟩ v').heap[i]? = wr.heap[i]? := fun i hi hne => by
        rw [Below.heap_setCell _ _ _ _ hne]
        exact hk2 i hi (by omega)
      have hown3 : OwnL pcC 57 4 (w2.setCell ⟨w.heap.size + 1 + 1, 1, none⟩ v') (w.heap.size + 3) v' (p.cells.take k ++ [x]) := hown2.keep fun g hg _ => Below.heap_setCell _ _ _ _ (by have := hown2.at_block g hg; simp only; omega)
      have hsz3 : w.heap.size + 3 ≤ (w2.setCell ⟨w.heap.size + 1 + 1, 1, none⟩ v').heap.size := by simp [World.setCell]; omega
      have hb3 : Below w.heap.size w (w2.setCell ⟨w.heap.size + 1 + 1, 1, none⟩ v') := below_set hb2 (by simp only; omega) _
      have hcs := cell_at ((hk2 (w.heap.size + 1 + 1) (by omega) (by omega)).trans HAT.out.h2) 1 v rfl
      have hfs := free_at ((hk2 (w.heap.size + 1 + 1) (by omega) (by omega)).trans HAT.out.h2) 1
      have HWd := Lib.hid hW
      clear hv' hrun hrun' hszW hsz2 hW hOW c0 c1 c2 c3 hpc hob hbW hbAw hWb
      go_wp2
      refine Dc.wp_region_segs 10 v.ownBlock.toList [([0, 1, 2, 3, 4, 5, 6], 7), ([], 8), ([9], 10)] [] (by kernel_rfl) (by kernel_rfl) (by kernel_rfl) (by kernel_rfl) (by kernel_rfl) (by intro c a d v w h; cases d <;> exact h) ?_
      rw [← HWd.out]
      refine Dc.wpSegs_more ?_
      simp only [Dc.pick, List.getElem?_cons_zero, List.getElem?_cons_succ]
      repeat (first | go_big_quiet_step (fail) | quiet_step (fail))
      refine wpQuiet_nil ?_
      refine Dc.wpOp_heavy rfl (by rfl) (fun K hK => ?_)
      go_simp
      refine hK _ _ (fun _ => Dc.But.of_below hbA) ?_
      clear hK K q21 q01 qc0 qc1 qc2 qc3
      refine Dc.wpSegs_more ?_
      simp only [Dc.pick]
      refine wpQuiet_nil ?_
      refine Dc.wpOp_heavy rfl (by rfl) (fun K hK => ?_)
      refine oper_append_ran (.tmp 20) (.tmp 26) 32 rfl _ _ _ _ rfl rfl HR.out ?_
      refine hK _ _ (fun _ => but_of_grown hg2) ?_
      clear hK K
      refine Dc.wpSegs_more ?_
      simp only [Dc.pick, List.getElem?_cons_zero, List.getElem?_cons_succ]
      repeat (first | go_big_quiet_step (fail) | quiet_step (fail))
      refine wpQuiet_nil ?_
      refine Dc.wpOp_heavy rfl (by rfl) (fun K hK => ?_)
      have hv' := HV'.out
      subst hv'
      go_simp
      refine hK _ _ (fun h => absurd rfl h) ?_
      clear hK K
      refine Dc.wpSegs_last ?_
      simp only [Dc.pick]
      refine wpQuiet_nil ?_
      go_wp2
      refine ⟨⟨k + 1, .slice Av nv cv, by omega, by go_num, ⟨?_, ?_, ?_, ?_, ?_⟩, ?_⟩, by simp [intOf]; omega⟩
      · exact (hkeep _ (by omega) (by omega)).trans HAT.out.h0
      · exact (hkeep _ (by omega) (by omega)).trans HAT.out.h1
      · have h := blk_set ((hk2 _ (by omega) (by omega)).trans HAT.out.h2) 1 (.slice Av nv cv)
        exact h
      · exact hsz3
      · exact hb3
      · rw [take_snocA Hx.out]
        exact hown3
    · have he : k = n := by omega
      subst he
      have hfull : p.cells.take k = p.cells := List.take_of_length_le (by rw [← Hn.out]; exact Nat.le_refl _)
      rw [hfull] at HO
      have hvb := HO.out.lt
      have HV := Lib.hid hvb
      clear hvb hfull
      go_wp2
      generalize wr = wo at *
      go_loopw [33] (fun i wr => ∃ (j : Nat) (u : Value), j ≤ m ∧ i = .int .i64 j ∧ MadeAt w pk pp pn A B k a m b v u wr ∧ OwnL pcC 57 4 wr (w.heap.size + 3) v p.cells ∧ OwnL pcK 58 2 wr wo.heap.size u (p.kids.take j) ∧ wo.heap.size ≤ wr.heap.size) (fun i _ => m - (intOf i).toNat)
      case atStart => exact ⟨0, _, Nat.zero_le _, rfl, HAT.out, HO.out, OwnL.nil_ _ _ _, Nat.le_refl _⟩
      case round =>
        obtain ⟨j, u, hj, rfl, hat, hownv, hown, hwo⟩ := hrel
        have HAT2 := Lib.hid hat
        have HO2 := Lib.hid hown
        have HOV := Lib.hid hownv
        have hszo := HAT.out.sz
        have hc01 := cell_at hat.h0 1 (.slice A k a) rfl
        have hc02 := cell_at hat.h0 2 (.slice B m b) rfl
        have hc20 := cell_at hat.h2 0 (.int .i64 pk) rfl
        have hc21 := cell_at hat.h2 1 v rfl
        have hc22 := cell_at hat.h2 2 u rfl
        have hc23 := cell_at hat.h2 3 (.string pp) rfl
        have hc24 := cell_at hat.h2 4 (.int .i64 pn) rfl
        clear hat hown hownv
        by_cases hlt2 : j < m
        · obtain ⟨ad, x, rfl, hx, hl, c0, c1⟩ := (hB.below HAT2.out.bel).atK (i := j) (by rw [← Hm.out]; exact hlt2)
          have hadw : ad.block < w.heap.size := by
            obtain ⟨ad', e, h, _⟩ := hB (by rw [← Hm.out]; omega)
            cases e
            exact h
          have Hx := Lib.hid hx
          clear hx
          obtain ⟨W, hW⟩ : ∃ W, W = wr.drew := ⟨_, rfl⟩
          have hszW : W.heap.size = wr.heap.size := by rw [hW]; rfl
          have hsz0 := HAT2.out.sz
          have hOW : OwnL pcK 58 2 W wo.heap.size u (p.kids.take j) := by rw [hW]; exact HO2.out
          have hWb : ∀ i : Nat, W.heap[i]? = wr.heap[i]? := fun i => by rw [hW]; rfl
          have hbW : Below w.heap.size w W := by rw [hW]; exact HAT2.out.bel.drew
          have hob : ∀ i, i < w.heap.size + 3 → i ∉ u.ownBlock.toList := fun i hi hm => by
            have := HO2.out.at_block i (by simpa using hm)
            omega
          have hpc : ∀ (q : Dc.Past u.ownBlock.toList W) (p : Addr) (u : Value), p.block < w.heap.size + 3 → wr.cell? p = some u → q.val.cell? p = some u := fun q p u hp hu => by
            refine (q.ok.cell (by omega) (hob _ hp)).trans ?_
            rw [hW]
            exact hu
          have q21 : ∀ q : Dc.Past u.ownBlock.toList W, q.val.cell? ⟨w.heap.size + 1 + 1, 2, none⟩ = some u := fun q => hpc q _ _ (by simp only; omega) hc22
          have q01 : ∀ q : Dc.Past u.ownBlock.toList W, q.val.cell? ⟨w.heap.size, 2, none⟩ = some (.slice (some ad) m b) := fun q => hpc q _ _ (by simp only; omega) hc02
          have qc0 : ∀ q : Dc.Past u.ownBlock.toList W, q.val.cell? (ad.add (j * 2)) = some (.string x.k) := fun q => hpc q _ _ (by rw [block_of_add]; omega) c0
          have qc1 : ∀ q : Dc.Past u.ownBlock.toList W, q.val.cell? ⟨(ad.add (j * 2)).block, (ad.add (j * 2)).off + 1, none⟩ = some (.int .i64 x.pg) := fun q => hpc q _ _ (by simp only [block_of_add]; omega) c1
          obtain ⟨v', w2, hrun, hown2, hg2⟩ := run_append_one encK 33 58 33 (.agg #[.string ByteArray.empty, .int .i64 0]) 24 ⟨_, Tryd.underlying33, rfl⟩ infoMadeK rfl (by omega) (by omega) (by omega) hOW x (by rw [List.length_take]; omega) (by omega)
          have hrun' : (Builtin.append_ #[33, 33] 33 #[u, .slice (some ⟨W.heap.size, 0, none⟩) 1 1]).run Tryd.prog (W.alloc (.cells #[.string x.k, .int .i64 x.pg] 58)) = .ok v' w2 := hrun
          have hg2 : (W.alloc (.cells #[.string x.k, .int .i64 x.pg] 58)).grownBy w2 u.ownBlock := hg2
          obtain ⟨Av, nv, cv, hv'⟩ : ∃ A n c, v' = Value.slice A n c := by
            obtain ⟨A', c', h, _⟩ := hown2.form
            exact ⟨_, _, _, h⟩
          have HV' := Lib.hid hv'
          have HR := Lib.hid hrun'
          have hbA : Below W.heap.size W (W.alloc (.cells #[.string x.k, .int .i64 x.pg] 58)) := (Below.refl _ _).alloc (Nat.le_refl _) _
          have hbAw := bthen hbW hbA
          have hb2 : Below w.heap.size w w2 := hbAw.grown hg2 hbAw.size (fun q hq => by have := hOW.at_block q hq; omega)
          have hsz2 : W.heap.size ≤ w2.heap.size := Nat.le_trans hbA.size hg2.size
          have hk2 : ∀ i : Nat, i < wo.heap.size → i < wr.heap.size → w2.heap[i]? = wr.heap[i]? := fun i hi hi2 => by
            rw [hg2.block i (Nat.lt_of_lt_of_le (by omega) hbA.size) (fun e => by have := hOW.at_block i e.symm; omega), hbA.block i (by omega), hWb]
          have hkeep : ∀ i : Nat, i < wo.heap.size → i ≠ w.heap.size + 1 + 1 → (w2.setCell ⟨w.heap.size + 1 + 1, 2, none⟩ v').heap[i]? = wr.heap[i]? := fun i hi hne => by
            rw [Below.heap_setCell _ _ _ _ hne]
            exact hk2 i hi (by omega)
          have hown3 : OwnL pcK 58 2 (w2.setCell ⟨w.heap.size + 1 + 1, 2, none⟩ v') wo.heap.size v' (p.kids.take j ++ [x]) := hown2.keep fun g hg _ => Below.heap_setCell _ _ _ _ (by have := hown2.at_block g hg; simp only; omega)
          have hsz3 : wr.heap.size ≤ (w2.setCell ⟨w.heap.size + 1 + 1, 2, none⟩ v').heap.size := by simp [World.setCell]; omega
          have hb3 : Below w.heap.size w (w2.setCell ⟨w.heap.size + 1 + 1, 2, none⟩ v') := below_set hb2 (by simp only; omega) _
          have hcs := cell_at ((hk2 (w.heap.size + 1 + 1) (by omega) (by omega)).trans HAT2.out.h2) 2 u rfl
          have hfs := free_at ((hk2 (w.heap.size + 1 + 1) (by omega) (by omega)).trans HAT2.out.h2) 2
          have HWd := Lib.hid hW
          clear hv' hrun hrun' hszW hsz2 hW hOW c0 c1  hpc hob hbW hbAw hWb
          go_wp2
          refine Dc.wp_region_segs 10 u.ownBlock.toList [([0, 1, 2, 3, 4, 5, 6], 7), ([], 8), ([9], 10)] [] (by kernel_rfl) (by kernel_rfl) (by kernel_rfl) (by kernel_rfl) (by kernel_rfl) (by intro c a d v w h; cases d <;> exact h) ?_
          rw [← HWd.out]
          refine Dc.wpSegs_more ?_
          simp only [Dc.pick, List.getElem?_cons_zero, List.getElem?_cons_succ]
          repeat (first | go_big_quiet_step (fail) | quiet_step (fail))
          refine wpQuiet_nil ?_
          refine Dc.wpOp_heavy rfl (by rfl) (fun K hK => ?_)
          go_simp
          refine hK _ _ (fun _ => Dc.But.of_below hbA) ?_
          clear hK K q21 q01 qc0 qc1 
          refine Dc.wpSegs_more ?_
          simp only [Dc.pick]
          refine wpQuiet_nil ?_
          refine Dc.wpOp_heavy rfl (by rfl) (fun K hK => ?_)
          refine oper_append_ran (.tmp 37) (.tmp 43) 33 rfl _ _ _ _ rfl rfl HR.out ?_
          refine hK _ _ (fun _ => but_of_grown hg2) ?_
          clear hK K
          refine Dc.wpSegs_more ?_
          simp only [Dc.pick, List.getElem?_cons_zero, List.getElem?_cons_succ]
          repeat (first | go_big_quiet_step (fail) | quiet_step (fail))
          refine wpQuiet_nil ?_
          refine Dc.wpOp_heavy rfl (by rfl) (fun K hK => ?_)
          have hv' := HV'.out
          subst hv'
          go_simp
          refine hK _ _ (fun h => absurd rfl h) ?_
          clear hK K
          refine Dc.wpSegs_last ?_
          simp only [Dc.pick]
          refine wpQuiet_nil ?_
          go_wp2
          refine ⟨⟨j + 1, .slice Av nv cv, by omega, by go_num, ⟨?_, ?_, ?_, ?_, ?_⟩, ?_, ?_, ?_⟩, by simp [intOf]; omega⟩
          · exact (hkeep _ (by omega) (by omega)).trans HAT2.out.h0
          · exact (hkeep _ (by omega) (by omega)).trans HAT2.out.h1
          · have h := blk_set ((hk2 _ (by omega) (by omega)).trans HAT2.out.h2) 2 (.slice Av nv cv)
            exact h
          · omega
          · exact hb3
          · exact HOV.out.keep fun g hg hlt => hkeep g (by have := HV.out g hg; omega) (by have := HOV.out.at_block g hg; omega)
          · rw [take_snocA Hx.out]
            exact hown3
          · omega
        · have he : j = m := by omega
          subst he
          have hfull : p.kids.take j = p.kids := List.take_of_length_le (by rw [← Hm.out]; exact Nat.le_refl _)
          rw [hfull] at HO2
          obtain ⟨A1, n1, rfl, hn1, hl1⟩ := HOV.out.form
          obtain ⟨B1, m1, rfl, hm1, hl2⟩ := HO2.out.form
          rw [← Hn.out, ← Hm.out] at *
          have hf0 := free_at HAT2.out.h1 0
          have hf1 := free_at HAT2.out.h1 1
          have hf2 := free_at HAT2.out.h1 2
          have hf3 := free_at HAT2.out.h1 3
          have hf4 := free_at HAT2.out.h1 4
          have hd0 := cell_at HAT2.out.h1 0 (.int .i64 0) rfl
          have hd1 := cell_at HAT2.out.h1 1 (.slice none 0 0) rfl
          have hd2 := cell_at HAT2.out.h1 2 (.slice none 0 0) rfl
          have hd3 := cell_at HAT2.out.h1 3 (.string ByteArray.empty) rfl
          have hd4 := cell_at HAT2.out.h1 4 (.int .i64 0) rfl
          go_wp2
          obtain ⟨w9, hw9⟩ : ∃ w9, w9 = (((((wr.setCell ⟨w.heap.size + 1, 0, none⟩ (.int .i64 pk)).setCell ⟨w.heap.size + 1, 1, none⟩ (.slice A1 k n1)).setCell ⟨w.heap.size + 1, 2, none⟩ (.slice B1 j m1)).setCell ⟨w.heap.size + 1, 3, none⟩ (.string pp)).setCell ⟨w.heap.size + 1, 4, none⟩ (.int .i64 pn)) := ⟨_, rfl⟩
          rw [← hw9]
          have hblk : w9.heap[w.heap.size + 1]? = some (.cells #[.int .i64 pk, .slice A1 k n1, .slice B1 j m1, .string pp, .int .i64 pn] 35 (0, 0)) := by
            rw [hw9]
            exact blk_set (blk_set (blk_set (blk_set (blk_set HAT2.out.h1 0 _) 1 _) 2 _) 3 _) 4 _
          have hoth : ∀ i, i ≠ w.heap.size + 1 → w9.heap[i]? = wr.heap[i]? := fun i hi => by
            rw [hw9, Below.heap_setCell _ _ _ _ hi, Below.heap_setCell _ _ _ _ hi, Below.heap_setCell _ _ _ _ hi, Below.heap_setCell _ _ _ _ hi, Below.heap_setCell _ _ _ _ hi]
          have hsz9 : w9.heap.size = wr.heap.size := by rw [hw9]; simp [World.setCell]
          have hbel9 : Below w.heap.size w w9 := by
            rw [hw9]
            exact below_set (below_set (below_set (below_set (below_set HAT2.out.bel (by simp only; omega) _) (by simp only; omega) _) (by simp only; omega) _) (by simp only; omega) _) (by simp only; omega) _
          obtain ⟨A2, n2, e2, _, hla⟩ := (HOV.out.keep (w' := w9) fun g hg hlt => hoth g (by have := HOV.out.at_block g hg; omega)).form
          simp only [Value.slice.injEq] at e2
          obtain ⟨rfl, _, rfl⟩ := e2
          obtain ⟨B2, m2, e3, _, hlb⟩ := (HO2.out.keep (w' := w9) fun g hg hlt => hoth g (by have := HO2.out.at_block g hg; omega)).form
          simp only [Value.slice.injEq] at e3
          obtain ⟨rfl, _, rfl⟩ := e3
          refine bodyPost_ret (v := .agg #[.int .i64 pk, .slice A1 k n1, .slice B1 j m1, .string pp, .int .i64 pn]) ?_ rfl (HP.out A1 B1 n1 m1 w9 hla hlb hbel9)
          have k0 := cell_at hblk 0 (.int .i64 pk) rfl
          have k1 := cell_at hblk 1 (.slice A1 k n1) rfl
          have k2 := cell_at hblk 2 (.slice B1 j m1) rfl
          have k3 := cell_at hblk 3 (.string pp) rfl
          have k4 := cell_at hblk 4 (.int .i64 pn) rfl
          simp [results, Tryd.results12, go_sem, k0, k1, k2, k3, k4]

end Go.Proofs.YtgicomadlhnkjaaDoor
