/-
  The contracts of shadow.New, Pages.Of, Pages.Add and Pages.own, of a set and of none; conditions: the nodes lie in memory.
-/
import Derived.Test.YtelenboncejdaaaGreatDoorShMem
namespace Go.Proofs.YtelenboncejdaaaGreatDoor
open Go.RowKit Go.Sort
open Go.ChangeMaps (setBlock)
set_option linter.unusedVariables false
set_option linter.unusedSimpArgs false

/-- A new set: its box and its map are new. -/
theorem newS_any (w : World) : Calls Tryz.prog 29 #[] w fun e w' => ∃ g m, e = .returned (.pointer (some ⟨g, 0, none⟩)) ∧ PB w' g (some m) [] ∧ w.heap.size ≤ g ∧ w.heap.size ≤ m ∧ g ≠ m ∧ Below w.heap.size w w' := by
  have hmm := @run_makeMap Tryz.prog
  go_enter Tryz.func29, Tryz.ntmps29
  go_wp2
  go_ret
  refine ⟨_, w.heap.size, rfl, ⟨?_, (fun h => by cases h), (fun m hm => ?_), (fun r hr => by cases hr)⟩, by simp, Nat.le_refl _, by simp, ((Below.refl _ _).alloc (Nat.le_refl _) _).alloc (by simp) _⟩
  · have e : (w.alloc (.map #[] 0)).heap.size = w.heap.size + 1 := by simp
    rw [← e]
    exact heap_alloc_new _ _
  · cases hm
    unfold MapIs
    rw [heap_alloc_old _ _ (by simp), heap_alloc_new]
    rfl

theorem of_nil (w : World) (v : Value) : Calls Tryz.prog 36 #[.pointer none, v] w fun e w' => e = .returned (.slice none 0 0) ∧ w' = w := by
  go_enter Tryz.func36, Tryz.ntmps36
  go_wp2
  go_ret
  exact ⟨rfl, rfl⟩
theorem of_some {w : World} {g b : Nat} {o : Option Nat} {R : List PR} {N : NR} (h : PB w g o R) (hb : NodeAt w b N) (hl : (pgs (Mof R) b).length ≤ 1000000) :
    Calls Tryz.prog 36 #[.pointer (some ⟨g, 0, none⟩), pn b] w fun e w' => ∃ v, e = .returned v ∧ OwnI w' w.heap.size v (pgs (Mof R) b) ∧ Below w.heap.size w w' := by
  obtain ⟨v, hlk, hov⟩ : ∃ v, (Instr.lookup 80 (.map o) (pn b) false).run Tryz.prog w = .ok v w ∧ OwnI w 0 v (pgs (Mof R) b) := by
    cases o with
    | none =>
      rw [h.none_ rfl]
      exact ⟨_, look_nilmap w _, OwnL.nil_ _ _ _⟩
    | some m => exact look_map (h.map m rfl) hb h.rows
  have c0 := cell_at h.box 0 (.map o) rfl
  obtain ⟨A, c, rfl, hc, hr⟩ := hov.form
  generalize hn : (pgs (Mof R) b).length = n at *
  have HN := Lib.hid hn
  unfold pn at *
  clear hov h hb hn
  go_enter Tryz.func36, Tryz.ntmps36
  go_wp2_with fail
  refine (cloneI_any A n c _ w hr HN.out hl).mono ?_
  rintro e w1 ⟨u, rfl, ho, hb1⟩
  go_wp2
  go_ret
  exact ⟨u, rfl, ho, hb1⟩
/-- Of, of a set or of none. -/
theorem ofS_any {w : World} {pv : Value} {M : PM} {b : Nat} {N : NR} (h : PgIs w pv M) (hb : NodeAt w b N) (hl : (pgs M b).length ≤ 1000000) :
    Calls Tryz.prog 36 #[pv, pn b] w fun e w' => ∃ v, e = .returned v ∧ OwnI w' w.heap.size v (pgs M b) ∧ Below w.heap.size w w' := by
  rcases h with ⟨rfl, rfl⟩ | ⟨g, o, R, rfl, hp, rfl⟩
  · refine (of_nil w _).mono ?_
    rintro e w1 ⟨rfl, rfl⟩
    exact ⟨_, rfl, OwnL.nil_ _ _ _, Below.refl _ _⟩
  · exact of_some hp hb hl

/-- The page of a node. -/
theorem own_some {w : World} {g b : Nat} {o : Option Nat} {R : List PR} {N : NR} (h : PB w g o R) (hb : NodeAt w b N) (hl : (pgs (Mof R) b).length ≤ 1000000) :
    Calls Tryz.prog 51 #[.pointer (some ⟨g, 0, none⟩), pn b] w fun e w' => e = .returned (.int .i64 (ownP (Mof R) b)) ∧ Below w.heap.size w w' := by
  have H := Lib.hid h
  have HB := Lib.hid hb
  have HL := Lib.hid hl
  clear h hb hl
  go_enter Tryz.func51, Tryz.ntmps51
  go_wp2_with fail
  refine (of_some H.out HB.out HL.out).mono ?_
  rintro e w1 ⟨v, rfl, ho, hb1⟩
  obtain ⟨A, c, rfl, hc, hr⟩ := ho.form
  cases hp : pgs (Mof R) b with
  | nil =>
    rw [hp] at ho hr hc
    have HP := Lib.hid hp
    clear ho hr hp
    go_wp2
    go_ret
    exact ⟨by rw [ownP, HP.out]; rfl, hb1⟩
  | cons x l =>
    rw [hp] at ho hr hc
    obtain ⟨ad, y, rfl, hy, hlt, hcell⟩ := hr.atI (i := 0) (by simp)
    simp only [List.getElem?_cons_zero, Option.some.injEq] at hy
    subst hy
    rw [show ad.add 0 = ad from rfl] at hcell
    have hlen : ¬ (((x :: l).length : Int) = 0) := by simp; omega
    have hpos : 0 < (x :: l).length := by simp
    obtain ⟨n, hn⟩ : ∃ n, n = (x :: l).length := ⟨_, rfl⟩
    rw [← hn] at hlen hpos hc ⊢
    have HP := Lib.hid hp
    clear ho hr hn hp
    go_wp2
    go_ret
    exact ⟨by rw [ownP, HP.out]; rfl, hb1⟩

theorem add_nilp (w : World) (v u : Value) : Calls Tryz.prog 38 #[.pointer none, v, u] w fun e w' => e = .returned (.tuple #[]) ∧ w' = w := by
  go_enter Tryz.func38, Tryz.ntmps38
  go_wp2
  refine bodyPost_ret (results_none rfl _ _ _) rfl ?_
  exact ⟨rfl, rfl⟩
theorem add_niln (w : World) (a : Addr) (u : Value) : Calls Tryz.prog 38 #[.pointer (some a), .pointer none, u] w fun e w' => e = .returned (.tuple #[]) ∧ w' = w := by
  go_enter Tryz.func38, Tryz.ntmps38
  go_wp2
  refine bodyPost_ret (results_none rfl _ _ _) rfl ?_
  exact ⟨rfl, rfl⟩

theorem own_cells {α : Type} {f : α → List Value} {k : Nat} {t : TypeId} {w : World} {base : Nat} {v : Value} {l : List α} (h : OwnL f t k w base v l) : ∀ g, v.ownBlock = some g → ∃ cur, w.heap[g]? = some (.cells cur t (0, 0)) := by
  intro g hg
  rcases h.2 with ⟨rfl, h0⟩ | ⟨g', cap, cur, rfl, hb, hh, _⟩
  · simp [Value.ownBlock] at hg
  · have : g' = g := by simpa [Value.ownBlock] using hg
    subst this
    exact ⟨cur, hh⟩
theorem MapIs.ne {w : World} {m k : Nat} {R : List PR} {cs : Array Value} {t : TypeId} {f : Nat × Nat} (h : MapIs w m R) (h' : w.heap[k]? = some (.cells cs t f)) : k ≠ m := fun e => by
  subst e
  rw [show w.heap[k]? = some (.map (pents R).toArray R.length) from h] at h'
  cases h'
theorem blk_map {w : World} : (w.alloc (.map #[] 0)).heap[w.heap.size]? = some (.map #[] 0) := heap_alloc_new _ _
theorem ls_keep {α : Type} {f : α → List Value} {w w' : World} {A : Option Addr} {l : List α} (h : Ls f w A l) (hs : w.heap.size ≤ w'.heap.size) (hb : ∀ ad, A = some ad → 0 < l.length → w'.heap[ad.block]? = w.heap[ad.block]?) : Ls f w' A l := fun h0 => by
  obtain ⟨ad, e, hlt, hc⟩ := h h0
  exact ⟨ad, e, Nat.lt_of_lt_of_le hlt hs, fun j u hu => (World.cell?_of_block (w := w) (by rw [block_of_add]; exact hb ad e h0)).trans (hc j u hu)⟩
theorem MapIs.lt {w : World} {m : Nat} {R : List PR} (h : MapIs w m R) : m < w.heap.size := (Array.getElem?_eq_some_iff.1 h).1
/-- Rows and nodes stay where the map alone turns. -/
theorem own_map {α : Type} {f : α → List Value} {k : Nat} {t : TypeId} {w w' : World} {m base : Nat} {R : List PR} {v : Value} {l : List α} (h : OwnL f t k w base v l) (hm : MapIs w m R) (hg : w.grownBy w' (some m)) : OwnL f t k w' base v l :=
  h.keep fun g hv hlt => hg.block g hlt fun e => by
    obtain ⟨cur, hc⟩ := own_cells h g hv
    exact hm.ne hc (Option.some.inj e)
theorem node_map {w w' : World} {m b : Nat} {R : List PR} {N : NR} (h : NodeAt w b N) (hm : MapIs w m R) (hg : w.grownBy w' (some m)) : NodeAt w' b N :=
  h.keep (hg.block b h.lt fun e => hm.ne h (Option.some.inj e))
theorem keep_grown {w w' : World} {m : Nat} (h : w.grownBy w' (some m)) : Keep (fun i => i = m) w w' := by
  obtain ⟨h1, h2, h3, h4, h5⟩ := h
  exact ⟨h1, h2, h3, h4, fun k hk hn => h5 k hk fun e => hn (by cases e; rfl)⟩
/-- Add, of a set with a map: the map alone turns. -/
theorem add_some {w : World} {g m b n c : Nat} {R : List PR} {N : NR} {A : Option Addr} {l : List Int} (h : PB w g (some m) R) (hb : NodeAt w b N) (hr : Ls icell w A l) (hn : l.length = n) (hl : n ≤ 1000000) :
    Calls Tryz.prog 38 #[.pointer (some ⟨g, 0, none⟩), pn b, .slice A n c] w fun e w' => e = .returned (.tuple #[]) ∧ ∃ v, PB w' g (some m) (addR R b v l) ∧ OwnI w' w.heap.size v l ∧ Keep (fun i => i = m) w w' := by
  have c0 := cell_at h.box 0 (.map (some m)) rfl
  have H := Lib.hid h
  have HB := Lib.hid hb
  have HR := Lib.hid hr
  have HN := Lib.hid hn
  unfold pn at *
  clear h hb hr hn
  have hq1 : ∀ w : World, (binOp .eql 80 (.map (some m)) (.map none)).run Tryz.prog w = .ok (.bool false) w := fun w => by kernel_rfl
  go_enter Tryz.func38, Tryz.ntmps38
  obtain ⟨W, hW⟩ : ∃ W, W = w.drew := ⟨_, rfl⟩
  have hbW : Below w.heap.size w W := by rw [hW]; exact (Below.refl _ _).drew
  have HBW := Lib.hid hbW
  have cW := (hbW.cell (p := ⟨g, 0, none⟩) (lt_of_block H.out.box)).trans c0
  have q0 : ∀ q : Dc.Past [] W, q.val.cell? ⟨g, 0, none⟩ = some (.map (some m)) := fun q => (q.ok.cell (Nat.lt_of_lt_of_le (lt_of_block H.out.box) hbW.size) (by simp)).trans cW
  have HW := Lib.hid hW
  clear hW hbW
  go_wp2_with fail
  refine Dc.wp_region_segs 7 [] [([0, 1, 2, 3, 4, 5], 6), ([], 7)] [] (by kernel_rfl) (by kernel_rfl) (by kernel_rfl) (by kernel_rfl) (by kernel_rfl) (by intro c a d v w h; cases d <;> exact h) ?_
  rw [← HW.out]
  refine Dc.wpSegs_more ?_
  simp only [Dc.pick, List.getElem?_cons_zero, List.getElem?_cons_succ]
  repeat (first | go_big_quiet_step (fail) | quiet_step (fail))
  refine wpQuiet_nil ?_
  refine Dc.wpOp_heavy rfl (by rfl) (fun K hK => ?_)
  go_simp
  refine (cloneI_any A n c _ W (HR.out.below HBW.out) HN.out hl).mono ?_
  rintro e w1 ⟨v, rfl, ho, hb0⟩
  refine hK _ _ (fun _ => Dc.But.of_below hb0) ?_
  clear hK K q0
  have hb1 := bthen HBW.out hb0
  have ho := ho.mono HBW.out.size
  have hB1 := HB.out.below hb1
  have HP1 := H.out.below hb1
  obtain ⟨w2, hrun, hm2, hg2⟩ := put_map (HP1.map m rfl) hB1 (fun r hr => (HP1.rows r hr).2) v l
  have HO := Lib.hid ho
  have HB1 := Lib.hid hb1
  have HM2 := Lib.hid hm2
  have HG2 := Lib.hid hg2
  have HP1' := Lib.hid HP1
  have HBB := Lib.hid hB1
  unfold pn at *
  clear ho hb1 hm2 hg2 HP1 hB1
  refine Dc.wpSegs_more ?_
  simp only [Dc.pick]
  refine wpQuiet_nil ?_
  refine Dc.wpOp_heavy rfl (by rfl) (fun K hK => ?_)
  go_simp
  refine hK _ _ (fun h => absurd rfl h) ?_
  clear hK K
  refine Dc.wpSegs_last ?_
  simp only [Dc.pick]
  refine wpQuiet_nil ?_
  go_wp2
  go_end0
  refine ⟨rfl, v, ⟨?_, (fun h => by cases h), (fun m' hm' => ?_), fun r hr => ?_⟩, ?_, ?_⟩
  · exact (HG2.out.block g (lt_of_block HP1'.out.box) fun e => (HP1'.out.map m rfl).ne HP1'.out.box (Option.some.inj e)).trans HP1'.out.box
  · cases hm'
    exact HM2.out
  · have hmm := HP1'.out.map m rfl
    rcases addR_mem hr with hr | rfl
    · obtain ⟨h1, M, h2⟩ := HP1'.out.rows r hr
      exact ⟨own_map h1 hmm HG2.out, M, node_map h2 hmm HG2.out⟩
    · exact ⟨(own_map HO.out hmm HG2.out).mono (Nat.zero_le _), _, node_map HBB.out hmm HG2.out⟩
  · exact own_map HO.out (HP1'.out.map m rfl) HG2.out
  · exact (Keep.of_below HB1.out).trans (keep_grown HG2.out)

set_option maxRecDepth 100000 in
/-- Add, of a set without a map: it is made. -/
theorem add_zero {w : World} {g b n c : Nat} {R : List PR} {N : NR} {A : Option Addr} {l : List Int} (h : PB w g none R) (hb : NodeAt w b N) (hr : Ls icell w A l) (hn : l.length = n) (hl : n ≤ 1000000) (hag : ∀ ad, A = some ad → 0 < l.length → ad.block ≠ g) :
    Calls Tryz.prog 38 #[.pointer (some ⟨g, 0, none⟩), pn b, .slice A n c] w fun e w' => e = .returned (.tuple #[]) ∧ ∃ v m, PB w' g (some m) (addR R b v l) ∧ w.heap.size ≤ m ∧ OwnI w' w.heap.size v l ∧ Keep (fun i => i = g) w w' := by
  have c0 := cell_at h.box 0 (.map none) rfl
  have hR := h.none_ rfl
  subst hR
  have hbx := h.box
  have HB := Lib.hid hb
  have HR := Lib.hid hr
  have HN := Lib.hid hn
  have HAG := Lib.hid hag
  unfold pn at *
  have hmm := @run_makeMap Tryz.prog
  have hq0 : ∀ w : World, (binOp .eql 80 (.map none) (.map none)).run Tryz.prog w = .ok (.bool true) w := fun w => by kernel_rfl
  have hne : g ≠ w.heap.size := by have := lt_of_block hbx; omega
  have hb0 : Below w.heap.size w (w.alloc (.map #[] 0)) := (Below.refl _ _).alloc (Nat.le_refl _) _
  have hbx1 := (hb0.block g (lt_of_block hbx)).trans hbx
  have hfa := free_at hbx1 0
  have hca := cell_at hbx1 0 (.map none) rfl
  clear h hb hr hn hag
  go_enter Tryz.func38, Tryz.ntmps38
  go_wp2_with fail
  obtain ⟨m, hm⟩ : ∃ m, m = w.heap.size := ⟨_, rfl⟩
  have hU0 : ((w.alloc (.map #[] 0)).setCell ⟨g, 0, none⟩ (.map (some m))).heap[g]? = some (.cells #[.map (some m)] 82 (0, 0)) := blk_set hbx1 0 _
  have hU1 : ((w.alloc (.map #[] 0)).setCell ⟨g, 0, none⟩ (.map (some m))).heap[m]? = some (.map #[] 0) := by
    rw [Below.heap_setCell _ _ _ _ (by simp only; omega)]
    subst hm
    exact heap_alloc_new w (.map #[] 0)
  have hkU : Keep (fun i => i = g) w ((w.alloc (.map #[] 0)).setCell ⟨g, 0, none⟩ (.map (some m))) := Keep.set (F := fun i => i = g) (p := ⟨g, 0, none⟩) (Keep.of_below hb0) (.inl rfl) _
  rw [← hm]
  generalize hU : (w.alloc (.map #[] 0)).setCell ⟨g, 0, none⟩ (.map (some m)) = U at *
  have h : PB U g (some m) [] := ⟨hU0, (fun h => by cases h), (fun k hk => by cases hk; exact hU1), fun r hr => by cases hr⟩
  have hbU : NodeAt U b N := HB.out.keep (hkU.block b HB.out.lt fun e => by
    subst e
    have h1 : w.heap[b]? = _ := HB.out
    rw [hbx] at h1
    cases h1)
  have hlU : Ls icell U A l := ls_keep HR.out hkU.size fun ad e h0 => hkU.block _ (by obtain ⟨ad', e', hlt, _⟩ := HR.out h0; rw [e] at e'; cases e'; exact hlt) (HAG.out ad e h0)
  have H := Lib.hid h
  have HLU := Lib.hid hlU
  have HBU := Lib.hid hbU
  have HKU := Lib.hid hkU
  have HSZ := Lib.hid (Nat.le_of_eq hm.symm)
  clear hm hU
  have cU := cell_at hU0 0 (.map (some m)) rfl
  obtain ⟨W, hW⟩ : ∃ W, W = U.drew := ⟨_, rfl⟩
  have hbW : Below U.heap.size U W := by rw [hW]; exact (Below.refl _ _).drew
  have HBW := Lib.hid hbW
  have cW := (hbW.cell (p := ⟨g, 0, none⟩) (lt_of_block H.out.box)).trans cU
  have q0 : ∀ q : Dc.Past [] W, q.val.cell? ⟨g, 0, none⟩ = some (.map (some m)) := fun q => (q.ok.cell (Nat.lt_of_lt_of_le (lt_of_block H.out.box) hbW.size) (by simp)).trans cW
  have HW := Lib.hid hW
  clear hW hbW
  refine Dc.wp_region_segs 7 [] [([0, 1, 2, 3, 4, 5], 6), ([], 7)] [] (by kernel_rfl) (by kernel_rfl) (by kernel_rfl) (by kernel_rfl) (by kernel_rfl) (by intro c a d v w h; cases d <;> exact h) ?_
  rw [← HW.out]
  refine Dc.wpSegs_more ?_
  simp only [Dc.pick, List.getElem?_cons_zero, List.getElem?_cons_succ]
  repeat (first | go_big_quiet_step (fail) | quiet_step (fail))
  refine wpQuiet_nil ?_
  refine Dc.wpOp_heavy rfl (by rfl) (fun K hK => ?_)
  go_simp
  refine (cloneI_any A n c _ W (HLU.out.below HBW.out) HN.out hl).mono ?_
  rintro e w1 ⟨v, rfl, ho, hb0⟩
  refine hK _ _ (fun _ => Dc.But.of_below hb0) ?_
  clear hK K q0
  have hb1 := bthen HBW.out hb0
  have ho := ho.mono HBW.out.size
  have hB1 := HBU.out.below hb1
  have HP1 := H.out.below hb1
  obtain ⟨w2, hrun, hm2, hg2⟩ := put_map (HP1.map m rfl) hB1 (fun r hr => (HP1.rows r hr).2) v l
  have HO := Lib.hid ho
  have HB1 := Lib.hid hb1
  have HM2 := Lib.hid hm2
  have HG2 := Lib.hid hg2
  have HP1' := Lib.hid HP1
  have HBB := Lib.hid hB1
  unfold pn at *
  clear ho hb1 hm2 hg2 HP1 hB1
  refine Dc.wpSegs_more ?_
  simp only [Dc.pick]
  refine wpQuiet_nil ?_
  refine Dc.wpOp_heavy rfl (by rfl) (fun K hK => ?_)
  go_simp
  refine hK _ _ (fun h => absurd rfl h) ?_
  clear hK K
  refine Dc.wpSegs_last ?_
  simp only [Dc.pick]
  refine wpQuiet_nil ?_
  go_wp2
  go_end0
  have hkp : Keep (fun i => i = g) w w2 := by
    refine ⟨(HG2.out.os).trans (HB1.out.os.trans HKU.out.os), (HG2.out.tape).trans (HB1.out.tape.trans HKU.out.tape), (HG2.out.output).trans (HB1.out.output.trans HKU.out.output), Nat.le_trans HKU.out.size (Nat.le_trans HB1.out.size HG2.out.size), fun k hk hn => ?_⟩
    exact (HG2.out.block k (Nat.lt_of_lt_of_le hk (Nat.le_trans HKU.out.size HB1.out.size)) fun e => by
      have := HSZ.out
      cases e
      omega).trans ((HB1.out.block k (Nat.lt_of_lt_of_le hk HKU.out.size)).trans (HKU.out.block k hk hn))
  refine ⟨rfl, v, m, ⟨?_, (fun h => by cases h), (fun m' hm' => ?_), fun r hr => ?_⟩, HSZ.out, ?_, hkp⟩
  · exact (HG2.out.block g (lt_of_block HP1'.out.box) fun e => (HP1'.out.map m rfl).ne HP1'.out.box (Option.some.inj e)).trans HP1'.out.box
  · cases hm'
    exact HM2.out
  · have hmm := HP1'.out.map m rfl
    rcases addR_mem hr with hr | rfl
    · obtain ⟨h1, M, h2⟩ := HP1'.out.rows r hr
      exact ⟨own_map h1 hmm HG2.out, M, node_map h2 hmm HG2.out⟩
    · exact ⟨(own_map HO.out hmm HG2.out).mono (Nat.zero_le _), _, node_map HBB.out hmm HG2.out⟩
  · exact (own_map HO.out (HP1'.out.map m rfl) HG2.out).mono HKU.out.size


end Go.Proofs.YtelenboncejdaaaGreatDoor
