/-
  The contract of the device's Write; conditions stand at each.
-/
import Derived.Test.YthjgcbpanfiacaaDevApply
import Derived.Great.BuildSlice
namespace Go.Proofs.Ythjgcbpanfiacaa
open Go.RowKit Go.Sort
set_option linter.unusedVariables false

theorem infoW : (Try.prog.info? 65).map (fun i => (i.zero.map (fun z => (z.cells.size, z.cells.all (·.oneCell'))), i.size, i.bytes)) = some (some (257, true), 257, 264) := by kernel_rfl
theorem infoW_parts : ∃ i0 z, Try.prog.info? 65 = some i0 ∧ i0.zero = some z ∧ z.cells.size = 257 ∧ z.cells.all (·.oneCell') = true ∧ i0.size = 257 ∧ i0.bytes = 264 := by
  have h := infoW
  cases hi : Try.prog.info? 65 with
  | none => rw [hi] at h; cases h
  | some i0 =>
    rw [hi] at h
    simp only [Option.map_some, Option.some.injEq, Prod.mk.injEq] at h
    obtain ⟨h1, h2, h3⟩ := h
    cases hz : i0.zero with
    | none => rw [hz] at h1; cases h1
    | some z =>
      rw [hz] at h1
      simp only [Option.map_some, Option.some.injEq, Prod.mk.injEq] at h1
      exact ⟨i0, z, rfl, hz, h1.1, h1.2, h2, h3⟩

/-- The zero value of a write. -/
theorem zeroW : ∃ Z : Array Value, Z.size = 257 ∧ Z ≠ #[] ∧ Z.all (·.oneCell') = true ∧ ∀ w : World, (zeroValue 65).run Try.prog w = .ok (.agg Z) w := by
  obtain ⟨i0, z, hi, hz, hzs, hza, hs, hb⟩ := infoW_parts
  cases z with
  | agg cs => exact ⟨cs, hzs, (by rintro rfl; cases hzs), hza, fun w => by simp [zeroValue, typeInfo, hi, hz]⟩
  | _ => cases hzs
theorem setRow_alloc (w : World) (X Y : Array Value) (t : TypeId) : (w.alloc (.cells X t)).setRow w.heap.size Y = w.alloc (.cells Y t) := by
  unfold World.setRow World.alloc
  congr 1
  apply Array.ext
  · simp
  · intro i h1 h2
    simp only [Array.getElem_modify, Array.getElem_push]
    split
    · rename_i hi
      subst hi
      simp
    · rename_i hi
      have : i < w.heap.size := by simp at h1; omega
      simp [this]

theorem write_store (w : World) (Z : Array Value) (p : Int) (hZ : Z.size = 257) (h1 : (Z.setIfInBounds 0 (.int .i64 p)).all (·.oneCell') = true) : (storeCells ⟨w.heap.size, 0, none⟩ (Z.toList.set 0 (.int .i64 p))).run Try.prog (w.alloc (.cells Z 65)) = .ok () (w.alloc (.cells (Z.setIfInBounds 0 (.int .i64 p)) 65)) := by
  have h := run_storeCells_from (P := Try.prog) w.heap.size 65 (Z.toList.set 0 (.int .i64 p)) 0 Z (w.alloc (.cells Z 65)) (heap_alloc_new w _) (by simp) (fun v hv => (Array.all_eq_true_iff_forall_mem.1 h1) v (by rw [← Array.mem_toList_iff, Array.toList_setIfInBounds]; exact hv))
  rw [setRow_alloc] at h
  rw [h]
  have e : (List.take 0 Z.toList ++ Z.toList.set 0 (Value.int IntKind.i64 p)).toArray = Z.setIfInBounds 0 (.int .i64 p) := by
    apply Array.toList_inj.1
    rw [Array.toList_setIfInBounds]
    simp
  rw [e]

theorem write_copy (w : World) (C : Array Value) (hC : C.size = 257) (x : WR) (hp : C[0]? = some (.int .i64 (x.page : Int))) (A : Option Addr) (c : Nat) (hr : Rd w A x.bytes) :
    (Builtin.copy_ #[35, 35] 3 #[.slice (some ⟨w.heap.size, 1, none⟩) 256 256, .slice A 256 c]).run Try.prog (w.alloc (.cells C 65)) = .ok (goInt 256) (w.alloc (.cells (wcells x).toArray 65)) := by
  have hxl := x.len
  obtain ⟨ad, rfl, hlt, hc⟩ := (hr.below ((Below.refl _ _).alloc (Nat.le_refl _) (.cells C 65))) (by omega)
  have h := run_copy_row (P := Try.prog) (w.alloc (.cells C 65)) 35 35 3 5 w.heap.size 1 256 256 ad 256 c C 65 (bcells x.bytes) Try.underlying35 u8size (heap_alloc_new w _) (by rw [bcells_length, hxl]; rfl) hc (by rw [bcells_length, hxl, hC]; omega) (bcells_one _)
  rw [bcells_length, hxl, setRow_alloc] at h
  rw [h]
  have e : C.toList.take 1 ++ bcells x.bytes ++ C.toList.drop (1 + 256) = wcells x := by
    rw [List.drop_of_length_le (by simp [hC]), List.append_nil]
    have : C.toList.take 1 = [.int .i64 (x.page : Int)] := by
      apply List.ext_getElem?
      intro j
      cases j with
      | zero => rw [List.getElem?_take_of_lt (by omega)]; simpa using hp
      | succ j => rw [List.getElem?_eq_none (by simp; omega)]; rfl
    rw [this]
    rfl
  rw [e]
  rfl

theorem write_load {w : World} {g : Nat} {x : WR} (h : w.heap[g]? = some (.cells (wcells x).toArray 65 (0, 0))) : (Instr.loadAt 65 (.pointer (some ⟨g, 0, none⟩))).run Try.prog w = .ok (.agg (wcells x).toArray) w := by
  obtain ⟨i0, z, hi, hz, hzs, hza, hs, hb⟩ := infoW_parts
  have h := run_loadVar_row (P := Try.prog) w g 65 65 _ (0, 0) _ h Try.underlying65 rfl (by rw [hi]; simp [hs, wcells_len])
  simp only [Instr.loadAt, Instr.sureAddr, Sem.run_bind, Sem.run_pure, Result.andThen_ok, h]
/-- An operation that only reads, by what it yields. -/
theorem quiet_run {o : Oper} {a : Act} {C : World → Prop} {K : Act → Prop} (v : Value) (h : ∀ w, C w → (execOp a.eval o).run Try.prog w = .ok (.value v) w) (hk : K (a.put o.dst v)) : o.quiet Try.prog a C K :=
  ⟨v, fun w hc => by unfold Oper.quietAt; rw [h w hc]; exact ⟨rfl, rfl⟩, hk⟩
theorem oper_run {o : Oper} {a : Act} {w w' : World} {K : Act → World → Prop} {Q : Exit → Act → World → Prop} (v : Value) (hr : (execOp a.eval o).run Try.prog w = .ok (.value v) w') (h : K (a.put o.dst v) w') : o.wp Try.prog a w K Q := by
  unfold Oper.wp
  rw [hr]
  exact h
theorem write_row (w : World) (x : WR) : (Instr.buildSlice 59 1 #[(0, .agg (wcells x).toArray)]).run Try.prog w = .ok (.slice (some ⟨w.heap.size, 0, none⟩) 1 1) (w.alloc (.cells (wcells x).toArray 65)) := by
  obtain ⟨i0, z, hi, hz, hzs, hza, hs, hb⟩ := infoW_parts
  refine run_buildSlice (P := Try.prog) w 59 65 1 _ _ i0 z Try.underlying59 hi hz (by rw [hs]; omega) (by rw [hs]; omega) ?_
  have h := Great.fill_whole (s := 257) (by omega) [.agg (wcells x).toArray] ((Array.range (1 * i0.size)).map (z.cells[· % z.cells.size]!)) (by simp [Value.cells, wcells_len]) (by simp [hs])
  rw [hs] at h ⊢
  simpa [Value.cells] using h

/-- Where what was appended to lies: where it lay, or in a new block. -/
theorem append_block {w : World} {t ty e : TypeId} {i : TypeInfo} {z : Value} {size by_ : Nat} (ht : Try.prog.underlying t = some (.slice e)) (hi : Try.prog.info? e = some i) (hz : i.zero = some z) (hsize : i.size = size) (hby : i.bytes = by_) (hzs : z.cells.size = size)
    {base : Nat} {v : Value} {n : Nat} {xs : List Value} (hown : w.ownsRow base e size v n xs) {a : Addr} {m c : Nat} {news : List Value} (hl : news.length = m * size) (hnews : ∀ j u, news[j]? = some u → w.cell? (a.add j) = some u) (h1 : ∀ u ∈ news, u.oneCell' = true)
    (hm : 0 < m) (h63 : n + m ≤ maxLen) (hbytes : (n + m) * by_ ≤ 140737488355328) {v' : Value} {w' : World} (hrun : (Builtin.append_ #[t, t] ty #[v, .slice (some a) m c]).run Try.prog w = .ok v' w') : v'.ownBlock = v.ownBlock ∨ v'.ownBlock = some w.heap.size := by
  subst hsize
  subst hby
  have hsmall : n + m ≤ 9223372036854775807 := by simp only [maxLen] at h63; omega
  rcases hown.2 with ⟨rfl, rfl⟩ | ⟨g, cap, cur, rfl, hbg, hg, hnc, hcm, hcs, htake⟩
  · have hr := run_append_nil (P := Try.prog) w t ty e i z ht hi hz a m c news hl hnews (by omega) (by omega) (by have hb := hbytes; simp only [Nat.zero_add] at hb; omega)
    rw [hrun] at hr
    cases hr
    exact .inr rfl
  · by_cases hroom : n + m ≤ cap
    · have hfit : n * i.size + news.length ≤ cur.size := by rw [hl, hcs, ← Nat.add_mul]; exact Nat.mul_le_mul_right _ hroom
      have hr := run_append_room (P := Try.prog) w t ty e i ht hi g n cap cur hg a m c news hl hnews h1 hroom hfit
      rw [hrun] at hr
      cases hr
      exact .inl rfl
    · have holds : ∀ j u, xs[j]? = some u → w.cell? ((⟨g, 0, none⟩ : Addr).add j) = some u := hown.cells (g := g) rfl
      have hr := run_append_grow (P := Try.prog) w t ty e i z ht hi hz ⟨g, 0, none⟩ n cap xs hown.1 holds a m c news hl hnews (by omega) (by omega) (growslice_fits (by omega) hbytes)
      rw [hrun] at hr
      cases hr
      exact .inr rfl

/-- append(v, x): onto a row of the call's own. -/
theorem run_append_write {w : World} {v : Value} {xs : List WR} (hown : OwnL wcells 65 257 w 0 v xs) (x : WR) (hb : xs.length ≤ 1000000) :
    ∃ v' w', (Builtin.append_ #[59, 59] 59 #[v, .slice (some ⟨w.heap.size, 0, none⟩) 1 1]).run Try.prog (w.alloc (.cells (wcells x).toArray 65)) = .ok v' w' ∧ OwnL wcells 65 257 w' 0 v' (xs ++ [x]) ∧ (w.alloc (.cells (wcells x).toArray 65)).grownBy w' v.ownBlock ∧ (v'.ownBlock = v.ownBlock ∨ v'.ownBlock = some (w.heap.size + 1)) := by
  obtain ⟨i0, z, hi, hz, hzs, hza, hs, hbt⟩ := infoW_parts
  have hbz : Below w.heap.size w (w.alloc (.cells (wcells x).toArray 65)) := (Below.refl _ _).alloc (Nat.le_refl _) _
  have hcells : ∀ j u, (wcells x)[j]? = some u → (w.alloc (.cells (wcells x).toArray 65)).cell? ((⟨w.heap.size, 0, none⟩ : Addr).add j) = some u := fun j u h => new_row w (wcells x).toArray _ j u (by simpa using h)
  obtain ⟨v', w', h1, h2, h3, h4⟩ := run_append_own (P := Try.prog) (w.alloc (.cells (wcells x).toArray 65)) 0 59 59 65 i0 z 257 264 Try.underlying59 hi hz hs hbt hzs (by omega) v xs.length (xs.flatMap wcells) (hown.below hbz) ⟨w.heap.size, 0, none⟩ 1 1 (wcells x) (by rw [wcells_len]) hcells (wenc.one x) (by simp only [maxLen]; omega) (by omega) (Nat.zero_le _)
  have h5 := append_block Try.underlying59 hi hz hs hbt hzs (hown.below hbz) (a := ⟨w.heap.size, 0, none⟩) (m := 1) (c := 1) (by rw [wcells_len]) hcells (wenc.one x) (by omega) (by simp only [maxLen]; omega) (by omega) h1
  refine ⟨v', w', h1, ?_, h3, by simpa using h5⟩
  unfold OwnL
  rw [List.flatMap_append, List.length_append]
  simpa using h2

theorem write_no {w : World} {b n : Nat} {st : List UInt8} {pd : List WR} {F : Nat → Prop} (i : Int) (A : Option Addr) (m c : Nat) (hd : Dev w b n st pd F) (hno : ¬ (0 ≤ i ∧ i < n ∧ m = 256)) :
    Calls Try.prog 14 #[.pointer (some ⟨b, 0, none⟩), .int .i64 i, .slice A m c] w fun e w' => e = .returned (.int .i64 1) ∧ w' = w := by
  by_cases hh : 0 ≤ i ∧ i < n
  · have hm : m ≠ 256 := fun h => hno ⟨hh.1, hh.2, h⟩
    go_enter Try.func14, Try.ntmps14
    go_wp2_with fail
    refine (has_any i hd).mono ?_
    rw [decide_eq_true hh]
    rintro e w1 ⟨rfl, rfl⟩
    go_wp2
    go_ret
    exact ⟨rfl, by trivial⟩
  · go_enter Try.func14, Try.ntmps14
    go_wp2_with fail
    refine (has_any i hd).mono ?_
    rw [decide_eq_false hh]
    rintro e w1 ⟨rfl, rfl⟩
    go_wp2
    go_ret
    exact ⟨rfl, by trivial⟩
theorem write_nil (i : Int) (A : Option Addr) (m c : Nat) (w : World) :
    Calls Try.prog 14 #[.pointer none, .int .i64 i, .slice A m c] w fun e w' => e = .returned (.int .i64 1) ∧ w' = w := by
  go_enter Try.func14, Try.ntmps14
  go_wp2_with fail
  refine (has_nil i w).mono ?_
  rintro e w1 ⟨rfl, rfl⟩
  go_wp2
  go_ret
  exact ⟨rfl, by trivial⟩

theorem but_of_grown {a b : World} {row : Option Nat} (h : a.grownBy b row) : Dc.But row.toList a b :=
  ⟨h.size, fun k hk hn => h.block k hk (fun e => hn (by rw [← e]; simp))⟩

theorem oper_append_ran {o : Oper} {a : Act} {w : World} {K : Act → World → Prop} {Q : Exit → Act → World → Prop} (s x : Operand) (t : TypeId)
    (ho : o.op = .call { callee := .builtin .append, args := #[s, x], argTypes := #[t, t] }) (v u v' : Value) (w' : World) (hs : a.eval s = v) (hx : a.eval x = u)
    (hrun : (Builtin.append_ #[t, t] o.type #[v, u]).run Try.prog w = .ok v' w') (h : K (a.put o.dst v') w') : o.wp Try.prog a w K Q := by
  unfold Oper.wp execOp
  simp only [ho, resolve, invoke, builtin, Sem.run_bind, Sem.run_pure, Result.andThen_ok, List.map_toArray, List.map_cons, List.map_nil, hs, hx, hrun]
  exact h

set_option maxHeartbeats 4000000 in
set_option maxRecDepth 100000 in
theorem write_any {w : World} {b n : Nat} {st : List UInt8} {pd : List WR} {F : Nat → Prop} (x : WR) (A : Option Addr) (c : Nat) (hd : Dev w b n st pd F) (hx : x.page < n) (hr : Rd w A x.bytes) (hfew : pd.length ≤ 1000000) :
    Calls Try.prog 14 #[.pointer (some ⟨b, 0, none⟩), .int .i64 (x.page : Int), .slice A 256 c] w fun e w' =>
      e = .returned (.int .i64 0) ∧ Dev w' b n st (pd ++ [x]) (Grew F w.heap.size) ∧ Keep F w w' := by
  obtain ⟨Z, hZ, hZne, hZ1, hzv⟩ := zeroW
  obtain ⟨p, hp⟩ : ∃ p, p = x.page := ⟨_, rfl⟩
  have hC : (Z.setIfInBounds 0 (.int .i64 (p : Int))).size = 257 := by simpa using hZ
  have hC1 : (Z.setIfInBounds 0 (.int .i64 (p : Int))).all (·.oneCell') = true := by
    rw [Array.all_eq_true_iff_forall_mem] at hZ1 ⊢
    intro u hu
    rcases Array.mem_or_eq_of_mem_setIfInBounds hu with h | h
    · exact hZ1 u h
    · rw [h]
      rfl
  have hstore := write_store w Z (p : Int) hZ hC1
  have hcopy := write_copy w _ hC x (by rw [← hp]; simp [hZ]) A c hr
  obtain ⟨C, hCe⟩ : ∃ C, C = Z.setIfInBounds 0 (.int .i64 (p : Int)) := ⟨_, rfl⟩
  rw [← hCe] at hstore hcopy
  clear hCe
  have hsl := run_slice_all
  have hH := hd
  obtain ⟨g, v, hat, hF⟩ := hd
  obtain ⟨Av, cv, hv⟩ := hat.form
  rw [← hp] at hx ⊢
  have hrow := fun w => write_row w x
  obtain ⟨X, hX⟩ : ∃ X, X = (wcells x).toArray := ⟨_, rfl⟩
  rw [← hX] at hcopy hrow
  have HH := Lib.hid hH
  have HAT := Lib.hid hat
  have HF := Lib.hid hF
  have HV := Lib.hid hv
  have HX := Lib.hid hX
  have HP := Lib.hid hp
  have hbox := hat.box
  have hc1 := cell_at hat.box 1 v rfl
  have HB := Lib.hid hbox
  clear hH hat hF hv hX hp hC hC1 hZ1 hbox hr
  go_enter Try.func14, Try.ntmps14
  go_wp2_with fail
  refine (has_any (p : Int) HH.out).mono ?_
  rw [decide_eq_true (show (0 : Int) ≤ p ∧ (p : Int) < n by omega)]
  rintro e w1 ⟨rfl, rfl⟩
  obtain ⟨w3, hw3⟩ : ∃ w3, w3 = w1.alloc (.cells X 65) := ⟨_, rfl⟩
  rw [← hw3] at hcopy
  have hb3 : Below w1.heap.size w1 w3 := by rw [hw3]; exact (Below.refl _ _).alloc (Nat.le_refl _) _
  have hn3 : w3.heap[w1.heap.size]? = some (.cells (wcells x).toArray 65 (0, 0)) := by rw [hw3, ← HX.out]; exact heap_alloc_new w1 _
  have hs3 : w3.heap.size = w1.heap.size + 1 := by rw [hw3]; simp
  have hat3 : DevAt w3 b g v n st pd := HAT.out.keep fun i hi => hb3.block i (HF.out i hi).2
  obtain ⟨W, hW⟩ : ∃ W, W = w3.drew := ⟨_, rfl⟩
  have hatW : DevAt W b g v n st pd := by rw [hW]; exact hat3.keep fun i hi => rfl
  have hbW : Below w1.heap.size w1 W := by rw [hW]; exact hb3.drew
  have hsW : W.heap.size = w1.heap.size + 1 := by rw [hW]; exact hs3
  have hnW : W.heap[w1.heap.size]? = some (.cells (wcells x).toArray 65 (0, 0)) := by rw [hW]; exact hn3
  have hvlt : ∀ i, v.ownBlock = some i → i < w1.heap.size := fun i hi => (HF.out i (.inr (.inr hi))).2
  have hqb : ∀ q' : Dc.Past v.ownBlock.toList W, q'.val.cell? ⟨b, 1, none⟩ = some v := fun q' => by
    refine (q'.ok.cell (lt_of_block hatW.box) (fun h => hatW.bv (by simpa using h))).trans (cell_at hatW.box 1 v rfl)
  have hql : ∀ q' : Dc.Past v.ownBlock.toList W, (Instr.loadAt 65 (.pointer (some ⟨w1.heap.size, 0, none⟩))).run Try.prog q'.val = .ok (.agg X) q'.val := fun q' => by
    rw [HX.out]
    exact write_load ((q'.ok.2 _ (by omega) (fun h => by have := hvlt _ (by simpa using h); omega)).trans hnW)
  obtain ⟨v', w4, hrun, hown4, hg4, hblk4⟩ := run_append_write hatW.own x hfew
  rw [← HX.out] at hrun hg4
  obtain ⟨A4, n4, c4, hv4⟩ : ∃ A n c, v' = Value.slice A n c := by
    obtain ⟨A', c', h, _⟩ := hown4.form
    exact ⟨_, _, _, h⟩
  have hrW := hrow W
  have hbA : Below W.heap.size W (W.alloc (.cells X 65)) := (Below.refl _ _).alloc (Nat.le_refl _) _
  have hk4 : ∀ i, i < W.heap.size → v.ownBlock ≠ some i → w4.heap[i]? = W.heap[i]? := fun i hi hne => by
    rw [hg4.block i (Nat.lt_of_lt_of_le hi hbA.size) (fun e => hne e.symm), hbA.block i hi]
  have hs4 : W.heap.size + 1 ≤ w4.heap.size := by have := hg4.size; simp at this; exact this
  have hbox4 := (hk4 b (lt_of_block hatW.box) hatW.bv).trans hatW.box
  have hc4 := cell_at hbox4 1 v rfl
  have hf4 := free_at hbox4 1
  have HR := Lib.hid hrun
  have HW := Lib.hid hW
  have HAW := Lib.hid hatW
  have HO4 := Lib.hid hown4
  have HG4 := Lib.hid hg4
  have HK4 := Lib.hid hk4
  have HS4 := Lib.hid hs4
  have HSW := Lib.hid hsW
  have HBW := Lib.hid hbW
  have HBL := Lib.hid hblk4
  have HV4 := Lib.hid hv4
  have HX4 := Lib.hid hbox4
  have HQL := Lib.hid hql
  have HRW := Lib.hid hrW
  clear hql hrW hw3 hb3 hn3 hs3 hat3 hW hatW hbW hsW hnW hvlt hrun hown4 hg4 hblk4 hv4 hk4 hs4 hbox4 hrow
  go_wp2
  refine Dc.wp_region_segs 10 v.ownBlock.toList [([5, 0, 1, 2, 3, 4], 6), ([], 7), ([8, 9], 10)] [] (by kernel_rfl) (by kernel_rfl) (by kernel_rfl) (by kernel_rfl) (by kernel_rfl) (by intro c a d v w h; cases d <;> exact h) ?_
  rw [← HW.out]
  refine Dc.wpSegs_more ?_
  simp only [Dc.pick, List.getElem?_cons_zero, List.getElem?_cons_succ]
  refine BigFrame.wpQuiet_want (by rfl) (fun K hK => ?_)
  refine quiet_run (.agg X) ?_ (hK _ ?_)
  · rintro w' ⟨q', rfl⟩
    have := HQL.out q'
    unfold execOp
    simp only [Act.eval, Array.getD_eq_getD_getElem?, List.getElem?_toArray, List.getElem?_cons_succ, List.getElem?_cons_zero, Option.getD_some, Sem.run_bind, Sem.run_pure, Result.andThen_ok, this]
  clear hK K
  simp only [Act.put]
  repeat (first | go_big_quiet_step (fail) | quiet_step (fail))
  refine wpQuiet_nil ?_
  refine Dc.wpOp_heavy rfl (by rfl) (fun K hK => ?_)
  refine oper_run (.slice (some ⟨W.heap.size, 0, none⟩) 1 1) (w' := W.alloc (.cells X 65)) ?_ (hK _ _ (fun _ => Dc.But.of_below hbA) ?_)
  · have := HRW.out
    unfold execOp
    simp only [Act.eval, Array.getD_eq_getD_getElem?, List.getElem?_toArray, List.getElem?_cons_succ, List.getElem?_cons_zero, Option.getD_some, Sem.run_bind, Sem.run_pure, Result.andThen_ok, List.map_toArray, List.map_cons, List.map_nil, this]
  simp only [Act.put]
  clear hK K hqb
  refine Dc.wpSegs_more ?_
  simp only [Dc.pick]
  refine wpQuiet_nil ?_
  refine Dc.wpOp_heavy rfl (by rfl) (fun K hK => ?_)
  refine oper_append_ran (.tmp 27) (.tmp 29) 59 rfl _ _ _ _ rfl rfl HR.out ?_
  refine hK _ _ (fun _ => but_of_grown HG4.out) ?_
  clear hK K
  refine Dc.wpSegs_more ?_
  simp only [Dc.pick, List.getElem?_cons_zero, List.getElem?_cons_succ]
  repeat (first | go_big_quiet_step (fail) | quiet_step (fail))
  refine wpQuiet_nil ?_
  refine Dc.wpOp_heavy rfl (by rfl) (fun K hK => ?_)
  have hv4 := HV4.out
  subst hv4
  go_simp
  refine hK _ _ (fun h => absurd rfl h) ?_
  clear hK K
  refine Dc.wpSegs_last ?_
  simp only [Dc.pick]
  refine wpQuiet_nil ?_
  go_wp2
  go_ret
  have hatW := HAW.out
  have hbs := blk_set HX4.out 1 (.slice A4 n4 c4)
  have hne : ∀ i, (Value.slice A4 n4 c4).ownBlock = some i → v.ownBlock = some i ∨ w1.heap.size < i := fun i hi => by
    rcases HBL.out with h | h
    · exact .inl (by rw [← h]; exact hi)
    · rw [h, HSW.out] at hi
      cases hi
      exact .inr (by omega)
  have hbl := (HF.out b (.inl rfl)).2
  have hgl := (HF.out g (.inr (.inl rfl))).2
  have hsW := HSW.out
  have hs4 := HS4.out
  have hz4 : (w4.setCell ⟨b, 1, none⟩ (.slice A4 n4 c4)).heap.size = w4.heap.size := by simp [World.setCell]
  have hnb : (Value.slice A4 n4 c4).ownBlock ≠ some b := fun e => by
    rcases hne b e with h | h
    · exact hatW.bv h
    · omega
  have hng : (Value.slice A4 n4 c4).ownBlock ≠ some g := fun e => by
    rcases hne g e with h | h
    · exact hatW.gv h
    · omega
  refine ⟨rfl, ⟨g, .slice A4 n4 c4, ⟨hbs, ?_, ?_, hatW.len, hatW.small, ?_, hatW.bg, hnb, hng⟩, ?_⟩, ?_⟩
  · rw [Below.heap_setCell _ _ _ _ (Ne.symm hatW.bg)]
    exact (HK4.out g (by omega) hatW.gv).trans hatW.row
  · exact HO4.out.keep fun i hi _ => Below.heap_setCell _ _ _ _ (fun e => hnb (hi.trans (congrArg some e)))
  · intro y hy
    rcases List.mem_append.1 hy with h | h
    · exact hatW.fits y h
    · rw [List.mem_singleton] at h
      rw [h, ← HP.out]
      exact hx
  · rintro i (rfl | rfl | h)
    · exact ⟨.inl (HF.out _ (.inl rfl)).1, by omega⟩
    · exact ⟨.inl (HF.out _ (.inr (.inl rfl))).1, by omega⟩
    · refine ⟨?_, ?_⟩
      · rcases hne i h with h | h
        · exact .inl (HF.out i (.inr (.inr h))).1
        · exact .inr (by omega)
      · have := HO4.out.lt i h
        omega
  · have hk1 : Keep F w1 W := .of_below HBW.out
    have hk2 : Keep F W w4 := ⟨HG4.out.os, HG4.out.tape, HG4.out.output, by omega, fun i hi hn => HK4.out i hi (fun e => hn (HF.out i (.inr (.inr e))).1)⟩
    exact (hk1.trans hk2).set (.inl (HF.out b (.inl rfl)).1) _

end Go.Proofs.Ythjgcbpanfiacaa
