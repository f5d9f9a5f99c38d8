/-
  The contracts of a write's apply and of the device's applyAll and Sync; conditions stand at each.
-/
import Derived.Test.YthjgcbpanfiacaaDevSmall
namespace Go.Proofs.Ythjgcbpanfiacaa
open Go.RowKit Go.Sort
set_option linter.unusedVariables false

theorem oper_copy_ran {o : Oper} {a : Act} {w : World} {K : Act → World → Prop} {Q : Exit → Act → World → Prop} (s x : Operand) (t u : TypeId)
    (ho : o.op = .call { callee := .builtin .copy, args := #[s, x], argTypes := #[t, u] }) (v y v' : Value) (w' : World) (hs : a.eval s = v) (hx : a.eval x = y)
    (hrun : (Builtin.copy_ #[t, u] o.type #[v, y]).run Try.prog w = .ok v' w') (h : K (a.put o.dst v') w') : o.wp Try.prog a w K Q := by
  unfold Oper.wp execOp
  simp only [ho, resolve, invoke, builtin, Sem.run_bind, Sem.run_pure, Result.andThen_ok, List.map_toArray, List.map_cons, List.map_nil, hs, hx, hrun]
  exact h

theorem u8size : (Try.prog.info? 5).map (·.size) = some 1 := by kernel_rfl

/-- copy of bytes into the middle of a row. -/
theorem run_copy_mid {w : World} {g off d c : Nat} {A : Option Addr} {m mc : Nat} {s l : List UInt8} (ty : TypeId) (hg : w.heap[g]? = some (.cells (bcells s).toArray 5 (0, 0))) (hl : Rd w A l) (hlen : l.length = Nat.min m d) (hfit : off + l.length ≤ s.length) :
    ∃ w', (Builtin.copy_ #[35, 35] ty #[.slice (some ⟨g, off, none⟩) d c, .slice A m mc]).run Try.prog w = .ok (goInt l.length) w' ∧ w'.heap[g]? = some (.cells (bcells (splice s off l)).toArray 5 (0, 0)) ∧ w.grownBy w' (some g) := by
  by_cases h0 : l.length = 0
  · obtain rfl : l = [] := List.eq_nil_of_length_eq_zero h0
    refine ⟨w, run_copy_none (P := Try.prog) w _ _ ty 5 _ A d c m mc Try.underlying35 u8size (by simpa using hlen.symm), ?_, ⟨rfl, rfl, rfl, Nat.le_refl _, fun _ _ _ => rfl⟩⟩
    simpa [splice] using hg
  · obtain ⟨ad, rfl, hlt, hc⟩ := hl (by omega)
    refine ⟨_, ?_, setRow_heap w g _ (bcells (splice s off l)).toArray 5 _ hg, ⟨rfl, rfl, rfl, by simp, fun i _ hi => setRow_other w g i _ (fun e => hi (by rw [e]))⟩⟩
    have h := run_copy_row (P := Try.prog) w 35 35 ty 5 g off d c ad m mc _ 5 (bcells l) Try.underlying35 u8size hg (by rw [bcells_length]; exact hlen) hc (by simpa [bcells_length] using hfit) (bcells_one l)
    rw [bcells_length] at h
    rw [h]
    congr 2
    simp [splice, bcells]

theorem under_arr : Try.prog.underlying 63 = some (.array 256 5) := by kernel_rfl
/-- A write's bytes, the first k of them, as a slice. -/
theorem run_slice_arr (q o k : Nat) (hk : k ≤ 256) (w : World) : (Instr.sliceAt 63 (.pointer (some ⟨q, o, none⟩)) none (some (.int .i64 (k : Int))) none).run Try.prog w = .ok (.slice (some ⟨q, o, none⟩) k 256) w := by
  have hk2 : (k : Int) ≤ 256 := by omega
  simp [Instr.sliceAt, Instr.sureAddr, run_underlying under_arr, Instr.sliceBounds, run_sliceBound, hk2, Addr.add]
theorem run_slice_all (q o : Nat) (w : World) : (Instr.sliceAt 63 (.pointer (some ⟨q, o, none⟩)) none none none).run Try.prog w = .ok (.slice (some ⟨q, o, none⟩) 256 256) w := by
  simp [Instr.sliceAt, Instr.sureAddr, run_underlying under_arr, Instr.sliceBounds, Addr.add]

set_option maxHeartbeats 1600000 in
set_option maxRecDepth 100000 in
theorem apply_any {w : World} {q o g n : Nat} {x : WR} {s : List UInt8} (size : Nat) (hc : w.cell? ⟨q, o, none⟩ = some (.int .i64 (x.page : Int))) (hr : Rd w (some ⟨q, o + 1, none⟩) x.bytes)
    (hg : w.heap[g]? = some (.cells (bcells s).toArray 5 (0, 0))) (hs : s.length = n * 256) (hn : n ≤ 512) (hx : x.page < n) (hz : size ≤ 256) :
    Calls Try.prog 31 #[.pointer (some ⟨q, o, none⟩), .slice (some ⟨g, 0, none⟩) (n * 256) (n * 256), .int .i64 (size : Int)] w fun e w' =>
      e = .returned (.tuple #[]) ∧ w'.heap[g]? = some (.cells (bcells (app x size s)).toArray 5 (0, 0)) ∧ w.grownBy w' (some g) := by
  obtain ⟨p, hp⟩ : ∃ p, p = x.page := ⟨_, rfl⟩
  rw [← hp] at hc hx
  have hq : q < w.heap.size := World.block_lt_of_cell? w _ hc
  have hxl := x.len
  have hpn : p * 256 + 256 ≤ n * 256 := by omega
  have hl : Rd w.drew (some ⟨q, o + 1, none⟩) (x.bytes.take size) := fun h0 => by
    obtain ⟨ad, e, hlt, h⟩ := hr (by omega)
    refine ⟨ad, e, hlt, fun j u hu => h j u ?_⟩
    have hj := (List.getElem?_eq_some_iff.1 hu).1
    rw [bcells_length, List.length_take] at hj
    simp only [bcells, List.map_take] at hu
    rw [List.getElem?_take_of_lt (by omega)] at hu
    exact hu
  obtain ⟨w2, hrun, hg2, hgr⟩ := run_copy_mid (w := w.drew) (g := g) (off := p * 256) (d := n * 256 - p * 256) (c := n * 256 - p * 256) (A := some ⟨q, o + 1, none⟩) (m := size) (mc := 256) (s := s) (l := x.bytes.take size) 3 hg hl
    (by rw [List.length_take, hxl, show Nat.min size (n * 256 - p * 256) = min size (n * 256 - p * 256) from rfl]; omega) (by rw [List.length_take]; omega)
  have hpc : ∀ q' : Dc.Past [] w.drew, q'.val.cell? ⟨q, o, none⟩ = some (.int .i64 (p : Int)) := fun q' => (q'.ok.cell hq (by simp)).trans hc
  have hsl := run_slice_arr q (o + 1) size hz
  have HR := Lib.hid hrun
  have HG := Lib.hid hg2
  have HGR := Lib.hid hgr
  have Hp := Lib.hid hp
  have HN := Lib.hid hpn
  clear hrun hg2 hgr hl hr hp hg
  go_enter Try.func31, Try.ntmps31
  go_wp2
  refine Dc.wp_region_segs 12 [] [([0, 1, 2, 3, 4, 5, 6, 7, 8, 9, 10, 11], 12)] [] (by kernel_rfl) (by kernel_rfl) (by kernel_rfl) (by kernel_rfl) (by kernel_rfl) (by intro c a d v w h; cases d <;> exact h) ?_
  refine Dc.wpSegs_more ?_
  simp only [Dc.pick, List.getElem?_cons_zero, List.getElem?_cons_succ]
  repeat (first | go_big_quiet_step (fail) | quiet_step (fail))
  refine wpQuiet_nil ?_
  refine Dc.wpOp_heavy rfl (by rfl) (fun K hK => ?_)
  refine oper_copy_ran (.tmp 12) (.tmp 17) 35 35 rfl _ _ _ _ rfl rfl HR.out ?_
  refine hK _ _ (fun h => absurd rfl h) ?_
  clear hK K
  refine Dc.wpSegs_last ?_
  simp only [Dc.pick]
  refine wpQuiet_nil ?_
  go_wp2
  go_end0
  refine ⟨rfl, ?_, ?_⟩
  · have := HG.out
    rw [Hp.out] at this
    exact this
  · have := HGR.out
    exact ⟨this.os, this.tape, this.output, this.size, this.block⟩

theorem grown_trans {a b c : World} {g : Nat} (h : a.grownBy b (some g)) (k : b.grownBy c (some g)) : a.grownBy c (some g) :=
  ⟨k.os.trans h.os, k.tape.trans h.tape, k.output.trans h.output, Nat.le_trans h.size k.size, fun i hi hn => (k.block i (Nat.lt_of_lt_of_le hi h.size) hn).trans (h.block i hi hn)⟩
theorem grown_refl (a : World) (g : Nat) : a.grownBy a (some g) := ⟨rfl, rfl, rfl, Nat.le_refl _, fun _ _ _ => rfl⟩
theorem DevAt.grown {w w' : World} {b g n : Nat} {v : Value} {st : List UInt8} {pd : List WR} (h : DevAt w b g v n st pd) {r : Nat} (hk : w.grownBy w' (some r)) (h1 : r ≠ b) (h3 : v.ownBlock ≠ some r) {i : Nat} (hi : i < pd.length) :
    ∃ q c x, v = .slice (some ⟨q, 0, none⟩) pd.length c ∧ pd[i]? = some x ∧ q ≠ r ∧ q < w.heap.size ∧ w'.cell? ⟨b, 1, none⟩ = some v ∧ w'.cell? ⟨q, i * 257, none⟩ = some (.int .i64 (x.page : Int)) ∧ Rd w' (some ⟨q, i * 257 + 1, none⟩) x.bytes := by
  obtain ⟨q, c, x, rfl, hx, hqb, hqg, hlt, h4, h5⟩ := h.wr hi
  have hqr : q ≠ r := fun e => h3 (by rw [← e]; rfl)
  have hsame : w'.heap[q]? = w.heap[q]? := hk.block q hlt (fun e => hqr (by cases e; rfl))
  refine ⟨q, c, x, rfl, hx, hqr, hlt, ?_, (World.cell?_of_block (w := w) (a := ⟨q, i * 257, none⟩) hsame).trans h4, fun h0 => ?_⟩
  · exact (World.cell?_of_block (w := w) (a := ⟨b, 1, none⟩) (hk.block b (lt_of_block h.box) (fun e => h1 (by cases e; rfl)))).trans (cell_at h.box 1 _ rfl)
  · obtain ⟨ad, e, hl, hc⟩ := h5 h0
    cases e
    exact ⟨_, rfl, Nat.lt_of_lt_of_le hl hk.size, fun j u hu => (World.cell?_of_block (w := w) (by rw [block_of_add]; exact hsame)).trans (hc j u hu)⟩

set_option maxHeartbeats 1600000 in
set_option maxRecDepth 100000 in
theorem applyAll_any {w : World} {b g0 g n : Nat} {v : Value} {st s : List UInt8} {pd : List WR} (hat : DevAt w b g0 v n st pd) (hg : w.heap[g]? = some (.cells (bcells s).toArray 5 (0, 0))) (hs : s.length = n * 256)
    (hgb : g ≠ b) (hgv : v.ownBlock ≠ some g) (hfew : pd.length ≤ 1000000) :
    Calls Try.prog 30 #[.pointer (some ⟨b, 0, none⟩), .slice (some ⟨g, 0, none⟩) (n * 256) (n * 256)] w fun e w' =>
      e = .returned (.tuple #[]) ∧ w'.heap[g]? = some (.cells (bcells (allN s pd pd.length)).toArray 5 (0, 0)) ∧ w.grownBy w' (some g) := by
  obtain ⟨A, c, rfl⟩ := hat.form
  have h1 := cell_at hat.box 1 (.slice A pd.length c) rfl
  have hsm := hat.small
  have HAT := Lib.hid hat
  have HS := Lib.hid hs
  have HG := Lib.hid hg
  obtain ⟨m, hm⟩ : ∃ m, m = pd.length := ⟨_, rfl⟩
  rw [← hm] at h1 hfew hgv ⊢
  have Hm := Lib.hid hm
  have HV := Lib.hid hgv
  clear hat hs hg hm hgv
  go_enter Try.func30, Try.ntmps30
  go_wp2
  go_loopw [10] (fun i wr => ∃ k : Nat, k ≤ m ∧ i = .int .i64 k ∧ wr.heap[g]? = some (.cells (bcells (allN s pd k)).toArray 5 (0, 0)) ∧ w.grownBy wr (some g)) (fun i _ => m - (intOf i).toNat)
  case atStart => exact ⟨0, Nat.zero_le _, rfl, HG.out, grown_refl _ _⟩
  case round =>
    obtain ⟨k, hk, rfl, hrow, hgr⟩ := hrel
    have HROW := Lib.hid hrow
    have HGR := Lib.hid hgr
    clear hrow hgr
    by_cases hlt : k < m
    · obtain ⟨q, c', x, hv, hx, hqg, hql, hc1, hcp, hrd⟩ := HAT.out.grown HGR.out hgb (by rw [← Hm.out]; exact HV.out) (i := k) (by rw [← Hm.out]; exact hlt)
      rw [← Hm.out] at hv
      cases hv
      rw [← Hm.out] at hc1
      have HX := Lib.hid hx
      have HRD := Lib.hid hrd
      have HCP := Lib.hid hcp
      clear hx hrd hcp
      have hxn := HAT.out.fits x (List.mem_of_getElem? HX.out)
      go_wp2_with fail
      refine (apply_any (n := n) 256 HCP.out HRD.out HROW.out (allN_len HS.out HAT.out.fits k) hsm hxn (Nat.le_refl _)).mono ?_
      rintro e w1 ⟨rfl, hrow1, hgr1⟩
      have HR1 := Lib.hid hrow1
      have HG1 := Lib.hid hgr1
      clear hrow1 hgr1
      go_wp2
      refine ⟨⟨k + 1, by omega, by go_num, ?_, grown_trans HGR.out HG1.out⟩, by simp [intOf]; omega⟩
      have := HR1.out
      rw [allN, foldN_succ HX.out]
      exact this
    · have he : k = m := by omega
      subst he
      go_wp2
      go_end0
      exact ⟨rfl, HROW.out, HGR.out⟩

set_option maxHeartbeats 1600000 in
set_option maxRecDepth 100000 in
theorem sync_any {w : World} {b n : Nat} {st : List UInt8} {pd : List WR} {F : Nat → Prop} (hd : Dev w b n st pd F) (hfew : pd.length ≤ 1000000) :
    Calls Try.prog 18 #[.pointer (some ⟨b, 0, none⟩)] w fun e w' =>
      e = .returned (.tuple #[]) ∧ Dev w' b n (allN st pd pd.length) [] F ∧ Keep F w w' := by
  obtain ⟨g, v, hat, hF⟩ := hd
  obtain ⟨A, c, rfl⟩ := hat.form
  have h0 := cell_at hat.box 0 (.slice (some ⟨g, 0, none⟩) (n * 256) (n * 256)) rfl
  have HAT := Lib.hid hat
  have HF := Lib.hid hF
  clear hat hF
  go_enter Try.func18, Try.ntmps18
  go_wp2_with fail
  refine (applyAll_any HAT.out HAT.out.row HAT.out.len (Ne.symm HAT.out.bg) HAT.out.gv hfew).mono ?_
  rintro e w1 ⟨rfl, hrow, hgr⟩
  have hbox := (hgr.block b (lt_of_block HAT.out.box) (fun e => HAT.out.bg (by cases e; rfl))).trans HAT.out.box
  have h1 := cell_at hbox 1 (.slice A pd.length c) rfl
  have hf1 := free_at hbox 1
  have HB := Lib.hid hbox
  have HR := Lib.hid hrow
  have HG := Lib.hid hgr
  clear hrow hgr hbox
  go_wp2
  go_end0
  have hbs := blk_set HB.out 1 (.slice none 0 0)
  refine ⟨rfl, ⟨g, .slice none 0 0, ⟨hbs, ?_, OwnL.nil_ _ _ _, allN_len HAT.out.len HAT.out.fits _, HAT.out.small, by simp, HAT.out.bg, by simp [Value.ownBlock], by simp [Value.ownBlock]⟩, ?_⟩, ?_⟩
  · rw [Below.heap_setCell _ _ _ _ (Ne.symm HAT.out.bg)]
    exact HR.out
  · rintro i (rfl | rfl | h)
    · exact ⟨(HF.out _ (.inl rfl)).1, lt_of_block hbs⟩
    · refine ⟨(HF.out _ (.inr (.inl rfl))).1, ?_⟩
      have := (HF.out _ (.inr (.inl rfl))).2
      have := HG.out.size
      simp [World.setCell]
      omega
    · simp [Value.ownBlock] at h
  · exact (Keep.of_only HG.out (HF.out g (.inr (.inl rfl))).1).set (.inl (HF.out b (.inl rfl)).1) _
theorem sync_nil (w : World) : Calls Try.prog 18 #[.pointer none] w fun e w' => e = .returned (.tuple #[]) ∧ w' = w := by
  go_enter Try.func18, Try.ntmps18
  go_wp2
  first | go_end0 | refine bodyPost_ret (results_none Try.results18 _ _ _) rfl ?_
  exact ⟨rfl, rfl⟩

end Go.Proofs.Ythjgcbpanfiacaa
