/-
  The contracts of page.putCell, content and Encode: a page's bytes in a new row; conditions: the page can be (Encode: any page), its slices can be read, the table of the check lies in memory.
-/
import Derived.Test.YtgicomadlhnkjaaDoorPageRight
import Derived.Test.YtgicomadlhnkjaaDoorDrawnC
import Derived.Test.YtgicomadlhnkjaaDoorSumSeal
import Derived.Test.YtgicomadlhnkjaaDoorPairRoom
namespace Go.Proofs.YtgicomadlhnkjaaDoor
open Go.RowKit Go.Sort
set_option linter.unusedVariables false

/-- Bytes in a row of the call's own. -/
def OB (w : World) (base : Nat) (v : Value) (l : List UInt8) : Prop := w.ownsRow base 5 1 v l.length (bcells l)
theorem OB.form {w : World} {base : Nat} {v : Value} {l : List UInt8} (h : OB w base v l) : ∃ A c, v = .slice A l.length c ∧ l.length ≤ c ∧ Rd w A l := by
  rcases h.2 with ⟨rfl, h0⟩ | ⟨g, cap, cur, rfl, hg, hh, hc, _⟩
  · exact ⟨none, 0, by rw [h0], by omega, fun hl => by omega⟩
  · exact ⟨_, _, rfl, hc, fun _ => ⟨_, rfl, lt_of_block hh, h.cells (g := g) rfl⟩⟩
theorem OB.named {w : World} {base : Nat} {v : Value} {l : List UInt8} (h : OB w base v l) : ∃ A n c, v = .slice A n c ∧ l.length = n ∧ n ≤ c ∧ Rd w A l := by
  obtain ⟨A, c, h1, h2, h3⟩ := h.form
  exact ⟨A, _, c, h1, rfl, h2, h3⟩
theorem OB.at_block {w : World} {base : Nat} {v : Value} {l : List UInt8} (h : OB w base v l) : ∀ g, v.ownBlock = some g → base ≤ g := by
  intro g hg
  rcases h.2 with ⟨rfl, h0⟩ | ⟨g', cap, cur, rfl, hb, _⟩
  · simp [Value.ownBlock] at hg
  · have : g' = g := by simpa [Value.ownBlock] using hg
    omega
theorem OB.below {w w' : World} {base : Nat} {v : Value} {l : List UInt8} (h : OB w base v l) (hb : Below w.heap.size w w') : OB w' base v l := own_below h hb
theorem OB.mono {w : World} {b b' : Nat} {v : Value} {l : List UInt8} (h : OB w b v l) (hb : b' ≤ b) : OB w b' v l := own_mono h hb
theorem OB.grow_below {a w w' : World} {base : Nat} {v : Value} {l : List UInt8} (h : OB w base v l) (hb : Below base a w) (hs : base ≤ w.heap.size) (hg : w.grownBy w' v.ownBlock) : Below base a w' :=
  hb.grown hg hs (fun k hk => h.at_block k hk)

theorem enc8 : Enc (fun b : UInt8 => [u8 b]) 1 := ⟨fun _ => rfl, fun x u hu => by
  rw [List.mem_singleton] at hu
  subst hu
  rfl⟩
theorem flat8 (l : List UInt8) : l.flatMap (fun b => [u8 b]) = bcells l := by
  induction l with
  | nil => rfl
  | cons b l ih => rw [List.flatMap_cons, ih]; rfl
/-- append(b, x). -/
theorem append_byte (ty : TypeId) {W : World} {base : Nat} {v : Value} {l : List UInt8} (h : OB W base v l) (hs : base ≤ W.heap.size) (x : UInt8) (y : Value) (hy : y = u8 x) (hl : l.length ≤ 1000000) :
    ∃ v' w', (Builtin.append_ #[28, 28] ty #[v, .slice (some ⟨W.heap.size, 0, none⟩) 1 1]).run Tryd.prog (W.alloc (.cells #[y] 5)) = .ok v' w' ∧ OB w' base v' (l ++ [x]) ∧ (W.alloc (.cells #[y] 5)).grownBy w' v.ownBlock := by
  subst hy
  have h' : OwnL (fun b : UInt8 => [u8 b]) 5 1 W base v l := by unfold OwnL; rw [flat8]; exact h
  obtain ⟨v', w', h1, h2, h3⟩ := run_append_one enc8 28 5 ty (.int .u8 0) 1 ⟨_, Tryd.underlying28, rfl⟩ u8info rfl (by omega) (by omega) (by omega) h' x hl hs
  refine ⟨v', w', h1, ?_, h3⟩
  unfold OwnL at h2
  rwa [flat8] at h2

theorem putText_ob (A : Option Addr) (n c : Nat) (l : List UInt8) (t : ByteArray) (w : World) (hr : Rd w A l) (hn : l.length = n) (hb : n ≤ 1000000) (hs : t.size ≤ 65535) :
    Calls Tryd.prog 38 #[.slice A n c, .string t] w fun e w' => ∃ v, e = .returned v ∧ OB w' w.heap.size v (l ++ textL t) ∧ Below w.heap.size w w' := by
  refine (putText_short A n c l t w hr hn (by omega) hs).mono ?_
  rintro e w' ⟨rfl, ho, hb'⟩
  refine ⟨_, rfl, ?_, hb'⟩
  unfold OB
  rw [show (l ++ textL t).length = n + 2 + t.size by rw [List.length_append, textL_len, hn]; omega, textL, ← List.append_assoc]
  exact ho
theorem put16_ob (A : Option Addr) (n c : Nat) (l : List UInt8) (x : Int) (w : World) (hr : Rd w A l) (hn : l.length = n) (hb : n ≤ 1000000) (hx : I64 x) :
    Calls Tryd.prog 37 #[.slice A n c, .int .i64 x] w fun e w' => ∃ v, e = .returned v ∧ OB w' w.heap.size v (l ++ be16 x) ∧ Below w.heap.size w w' := by
  refine (put16_any A n c l x w hr hn (by omega) hx.1 hx.2).mono ?_
  rintro e w' ⟨rfl, ho, hb'⟩
  refine ⟨_, rfl, ?_, hb'⟩
  unfold OB
  rw [show (l ++ be16 x).length = n + 2 by rw [List.length_append, be16_len, hn]]
  exact ho

theorem but_of_grown {a b : World} {row : Option Nat} (h : a.grownBy b row) : Dc.But row.toList a b :=
  ⟨h.size, fun k hk hn => h.block k hk (fun e => hn (by rw [← e]; simp))⟩

theorem oper_append_ran {o : Oper} {a : Act} {w : World} {K : Act → World → Prop} {Q : Exit → Act → World → Prop} (s x : Operand) (t : TypeId)
    (ho : o.op = .call { callee := .builtin .append, args := #[s, x], argTypes := #[t, t] }) (v u v' : Value) (w' : World) (hs : a.eval s = v) (hx : a.eval x = u)
    (hrun : (Builtin.append_ #[t, t] o.type #[v, u]).run Tryd.prog w = .ok v' w') (h : K (a.put o.dst v') w') : o.wp Tryd.prog a w K Q := by
  unfold Oper.wp execOp
  simp only [ho, resolve, invoke, builtin, Sem.run_bind, Sem.run_pure, Result.andThen_ok, List.map_toArray, List.map_cons, List.map_nil, hs, hx, hrun]
  exact h

theorem i64_num {n : Int} (h : okNum n) : I64 n := ⟨by have := h.1; omega, by have := h.2; omega⟩

set_option maxHeartbeats 1000000 in
theorem putCell_in (A : Option Addr) (n a : Nat) (l : List UInt8) (c : PC) (w : World) (hr : Rd w A l) (hn : l.length = n) (hb : n ≤ 100000) (hk : okKey c.k) (hv : c.v.size ≤ 24) (hz : c.sz = 0) :
    Calls Tryd.prog 36 #[.slice A n a, cellV c] w fun e w' => ∃ v, e = .returned v ∧ OB w' w.heap.size v (l ++ cellL c) ∧ Below w.heap.size w w' := by
  obtain ⟨ck, cv, cz, cs⟩ := c
  simp only at hk hv hz
  subst hz
  unfold cellV
  simp only
  have hk2 := hk.2
  have Hn := Lib.hid hn
  clear hn
  have hbx : Below w.heap.size w (w.alloc (.cells #[.string ck, .string cv, .int .i64 0, .int .i64 cs] 57)) := (Below.refl _ _).alloc (Nat.le_refl _) _
  have hrx := hr.below hbx
  have hc1 : (w.alloc (.cells #[.string ck, .string cv, .int .i64 0, .int .i64 cs] 57)).cell? ⟨w.heap.size, 1, none⟩ = some (.string cv) := new_row w #[.string ck, .string cv, .int .i64 0, .int .i64 cs] 57 1 _ rfl
  have hc2 : (w.alloc (.cells #[.string ck, .string cv, .int .i64 0, .int .i64 cs] 57)).cell? ⟨w.heap.size, 2, none⟩ = some (.int .i64 0) := new_row w #[.string ck, .string cv, .int .i64 0, .int .i64 cs] 57 2 _ rfl
  go_enter Tryd.func36, Tryd.ntmps36
  go_wp2_with fail
  refine (putText_ob A n a l ck _ hrx Hn.out (by omega) (by omega)).mono ?_
  rintro e w1 ⟨v1, rfl, ho1, hb1⟩
  have h11 := (hb1.cell (p := ⟨w.heap.size, 1, none⟩) (by simp)).trans hc1
  have h12 := (hb1.cell (p := ⟨w.heap.size, 2, none⟩) (by simp)).trans hc2
  have hbw := bthen hbx hb1
  have hs1 : w.heap.size < w1.heap.size := by have := hb1.size; simp at this; omega
  have hg1 : ∀ g, v1.ownBlock = some g → w.heap.size < g := fun g hg => by have := ho1.at_block g hg; simp at this; omega
  have HO := Lib.hid (ho1.mono (b' := w.heap.size) (by simp))
  clear hc1 hc2 hb1 hbx hrx ho1
  go_wp2
  obtain ⟨W, hW⟩ : ∃ W, W = w1.drew := ⟨_, rfl⟩
  have HOW : Hid (OB W w.heap.size v1 (l ++ textL ck)) := by rw [hW]; exact HO.out
  have hbW : Below w.heap.size w W := by rw [hW]; exact hbw.drew
  have hsW : w.heap.size < W.heap.size := by rw [hW]; exact hs1
  have hq : ∀ q : Dc.Past v1.ownBlock.toList W, q.val.cell? ⟨w.heap.size, 1, none⟩ = some (.string cv) := fun q =>
    (q.ok.cell (p := ⟨w.heap.size, 1, none⟩) hsW (fun hm => by
      have := hg1 w.heap.size (by simpa using hm)
      omega)).trans (by rw [hW]; exact h11)
  obtain ⟨v', w2, hrun, ho2, hg2⟩ := append_byte 28 HOW.out hbW.size 0 (.int .u8 0) rfl (by rw [List.length_append, textL_len, Hn.out]; omega)
  have HR := Lib.hid hrun
  have HO2 := Lib.hid ho2
  have hbA : Below w.heap.size w (W.alloc (.cells #[.int .u8 0] 5)) := hbW.alloc hbW.size _
  have hbA0 : Below W.heap.size W (W.alloc (.cells #[.int .u8 0] 5)) := (Below.refl _ _).alloc (Nat.le_refl _) _
  have HOA := HOW.out.below hbA0
  have hb2 : Below w.heap.size w w2 := HOA.grow_below hbA hbA.size hg2
  have HWd := Lib.hid hW
  clear hrun ho2 hW HO hbw hs1 h11 h12
  refine Dc.wp_region_segs 6 v1.ownBlock.toList [([0, 3, 4], 1), ([], 2), ([], 5)] [6] (by kernel_rfl) (by kernel_rfl) (by kernel_rfl) (by kernel_rfl) (by kernel_rfl) (by intro c a d v w h; cases d <;> exact h) ?_
  rw [← HWd.out]
  refine Dc.wpSegs_more ?_
  simp only [Dc.pick, List.getElem?_cons_zero, List.getElem?_cons_succ]
  repeat (first | go_big_quiet_step (fail) | quiet_step (fail))
  refine wpQuiet_nil ?_
  refine Dc.wpOp_heavy rfl (by rfl) (fun K hK => ?_)
  go_simp
  refine hK _ _ (fun _ => Dc.But.of_below hbA0) ?_
  clear hK K hq
  refine Dc.wpSegs_more ?_
  simp only [Dc.pick]
  refine wpQuiet_nil ?_
  refine Dc.wpOp_heavy rfl (by rfl) (fun K hK => ?_)
  refine oper_append_ran (.tmp 12) (.tmp 13) 28 rfl _ _ _ _ rfl rfl HR.out ?_
  refine hK _ _ (fun _ => but_of_grown hg2) ?_
  clear hK K
  obtain ⟨A2, n2, c2, rfl, hn2, hc2, hr2⟩ := HO2.out.named
  have hn2' : n2 ≤ 200000 := by
    rw [← hn2, List.length_append, List.length_append, textL_len, Hn.out]
    simp
    omega
  have Hn2 := Lib.hid hn2
  clear hn2
  refine Dc.wpSegs_more ?_
  simp only [Dc.pick]
  refine wpQuiet_nil ?_
  refine Dc.wpOp_heavy rfl (by rfl) (fun K hK => ?_)
  go_simp
  refine (putText_ob A2 n2 c2 _ cv w2 hr2 Hn2.out (by omega) (by omega)).mono ?_
  rintro x w3 ⟨v3, rfl, ho3, hb3⟩
  have HO3 := Lib.hid ho3
  have hbb := bthen hb2 hb3
  refine hK _ _ (fun _ => Dc.But.of_below hb3) ?_
  clear hK K ho3
  refine Dc.wpSegs_last ?_
  simp only [Dc.pick, List.getElem?_cons_zero, List.getElem?_cons_succ]
  repeat (first | go_big_quiet_step (fail) | quiet_step (fail))
  refine wpQuiet_nil ?_
  go_wp2
  go_ret
  refine ⟨_, rfl, ?_, hbb⟩
  have h := HO3.out.mono hb2.size
  rw [List.append_assoc, List.append_assoc] at h
  unfold cellL
  rw [if_pos rfl]
  exact h

set_option maxHeartbeats 1000000 in
theorem putCell_on (A : Option Addr) (n a : Nat) (l : List UInt8) (c : PC) (w : World) (hr : Rd w A l) (hn : l.length = n) (hb : n ≤ 100000) (hk : okKey c.k) (hz0 : c.sz ≠ 0) (hz : 0 ≤ c.sz ∧ c.sz < 65536) (hst : 0 ≤ c.st ∧ c.st < 65536) :
    Calls Tryd.prog 36 #[.slice A n a, cellV c] w fun e w' => ∃ v, e = .returned v ∧ OB w' w.heap.size v (l ++ cellL c) ∧ Below w.heap.size w w' := by
  obtain ⟨ck, cv, cz, cs⟩ := c
  simp only at hk hz0 hz hst
  have hz1 := hz.1
  have hz2 := hz.2
  have hst1 := hst.1
  have hst2 := hst.2
  unfold cellV
  simp only
  have hk2 := hk.2
  have Hn := Lib.hid hn
  clear hn
  have hbx : Below w.heap.size w (w.alloc (.cells #[.string ck, .string cv, .int .i64 cz, .int .i64 cs] 57)) := (Below.refl _ _).alloc (Nat.le_refl _) _
  have hrx := hr.below hbx
  have hc1 : (w.alloc (.cells #[.string ck, .string cv, .int .i64 cz, .int .i64 cs] 57)).cell? ⟨w.heap.size, 3, none⟩ = some (.int .i64 cs) := new_row w #[.string ck, .string cv, .int .i64 cz, .int .i64 cs] 57 3 _ rfl
  have hc2 : (w.alloc (.cells #[.string ck, .string cv, .int .i64 cz, .int .i64 cs] 57)).cell? ⟨w.heap.size, 2, none⟩ = some (.int .i64 cz) := new_row w #[.string ck, .string cv, .int .i64 cz, .int .i64 cs] 57 2 _ rfl
  go_enter Tryd.func36, Tryd.ntmps36
  go_wp2_with fail
  refine (putText_ob A n a l ck _ hrx Hn.out (by omega) (by omega)).mono ?_
  rintro e w1 ⟨v1, rfl, ho1, hb1⟩
  have h11 := (hb1.cell (p := ⟨w.heap.size, 3, none⟩) (by simp)).trans hc1
  have h12 := (hb1.cell (p := ⟨w.heap.size, 2, none⟩) (by simp)).trans hc2
  have hbw := bthen hbx hb1
  have hs1 : w.heap.size < w1.heap.size := by have := hb1.size; simp at this; omega
  have hg1 : ∀ g, v1.ownBlock = some g → w.heap.size < g := fun g hg => by have := ho1.at_block g hg; simp at this; omega
  have HO := Lib.hid (ho1.mono (b' := w.heap.size) (by simp))
  clear hc1 hc2 hb1 hbx hrx ho1
  go_wp2
  obtain ⟨W, hW⟩ : ∃ W, W = w1.drew := ⟨_, rfl⟩
  have HOW : Hid (OB W w.heap.size v1 (l ++ textL ck)) := by rw [hW]; exact HO.out
  have hbW : Below w.heap.size w W := by rw [hW]; exact hbw.drew
  have hsW : w.heap.size < W.heap.size := by rw [hW]; exact hs1
  have hq : ∀ q : Dc.Past v1.ownBlock.toList W, q.val.cell? ⟨w.heap.size, 3, none⟩ = some (.int .i64 cs) := fun q =>
    (q.ok.cell (p := ⟨w.heap.size, 3, none⟩) hsW (fun hm => by
      have := hg1 w.heap.size (by simpa using hm)
      omega)).trans (by rw [hW]; exact h11)
  have hq2 : ∀ q : Dc.Past v1.ownBlock.toList W, q.val.cell? ⟨w.heap.size, 2, none⟩ = some (.int .i64 cz) := fun q =>
    (q.ok.cell (p := ⟨w.heap.size, 2, none⟩) hsW (fun hm => by
      have := hg1 w.heap.size (by simpa using hm)
      omega)).trans (by rw [hW]; exact h12)
  obtain ⟨v', w2, hrun, ho2, hg2⟩ := append_byte 28 HOW.out hbW.size 1 (.int .u8 1) rfl (by rw [List.length_append, textL_len, Hn.out]; omega)
  have HR := Lib.hid hrun
  have HO2 := Lib.hid ho2
  have hbA : Below w.heap.size w (W.alloc (.cells #[.int .u8 1] 5)) := hbW.alloc hbW.size _
  have hbA0 : Below W.heap.size W (W.alloc (.cells #[.int .u8 1] 5)) := (Below.refl _ _).alloc (Nat.le_refl _) _
  have HOA := HOW.out.below hbA0
  have hb2 : Below w.heap.size w w2 := HOA.grow_below hbA hbA.size hg2
  have HWd := Lib.hid hW
  clear hrun ho2 hW HO hbw hs1 h11 h12
  refine Dc.wp_region_segs 9 v1.ownBlock.toList [([0, 3, 4, 6, 7], 1), ([], 2), ([], 5), ([], 8)] [9] (by kernel_rfl) (by kernel_rfl) (by kernel_rfl) (by kernel_rfl) (by kernel_rfl) (by intro c a d v w h; cases d <;> exact h) ?_
  rw [← HWd.out]
  refine Dc.wpSegs_more ?_
  simp only [Dc.pick, List.getElem?_cons_zero, List.getElem?_cons_succ]
  repeat (first | go_big_quiet_step (fail) | quiet_step (fail))
  refine wpQuiet_nil ?_
  refine Dc.wpOp_heavy rfl (by rfl) (fun K hK => ?_)
  go_simp
  refine hK _ _ (fun _ => Dc.But.of_below hbA0) ?_
  clear hK K hq hq2
  refine Dc.wpSegs_more ?_
  simp only [Dc.pick]
  refine wpQuiet_nil ?_
  refine Dc.wpOp_heavy rfl (by rfl) (fun K hK => ?_)
  refine oper_append_ran (.tmp 18) (.tmp 19) 28 rfl _ _ _ _ rfl rfl HR.out ?_
  refine hK _ _ (fun _ => but_of_grown hg2) ?_
  clear hK K
  obtain ⟨A2, n2, c2, rfl, hn2, hc2, hr2⟩ := HO2.out.named
  have hn2' : n2 ≤ 200000 := by
    rw [← hn2, List.length_append, List.length_append, textL_len, Hn.out]
    simp
    omega
  have Hn2 := Lib.hid hn2
  clear hn2
  refine Dc.wpSegs_more ?_
  simp only [Dc.pick]
  refine wpQuiet_nil ?_
  refine Dc.wpOp_heavy rfl (by rfl) (fun K hK => ?_)
  go_simp
  refine (put16_ob A2 n2 c2 _ cz w2 hr2 Hn2.out (by omega) ⟨by omega, by omega⟩).mono ?_
  rintro x w3 ⟨v3, rfl, ho3, hb3⟩
  have HO3 := Lib.hid ho3
  have hbb := bthen hb2 hb3
  refine hK _ _ (fun _ => Dc.But.of_below hb3) ?_
  clear hK K ho3
  obtain ⟨A3, n3, c3, rfl, hn3, hc3, hr3⟩ := HO3.out.named
  have hn3' : n3 ≤ 300000 := by
    rw [← hn3, List.length_append, be16_len, Hn2.out]
    omega
  have Hn3 := Lib.hid hn3
  clear hn3
  refine Dc.wpSegs_more ?_
  simp only [Dc.pick]
  refine wpQuiet_nil ?_
  refine Dc.wpOp_heavy rfl (by rfl) (fun K hK => ?_)
  go_simp
  refine (put16_ob A3 n3 c3 _ cs w3 hr3 Hn3.out (by omega) ⟨by omega, by omega⟩).mono ?_
  rintro x w4 ⟨v4, rfl, ho4, hb4⟩
  have HO4 := Lib.hid ho4
  have hbb4 := bthen hbb hb4
  refine hK _ _ (fun _ => Dc.But.of_below hb4) ?_
  clear hK K ho4
  refine Dc.wpSegs_last ?_
  simp only [Dc.pick, List.getElem?_cons_zero, List.getElem?_cons_succ]
  repeat (first | go_big_quiet_step (fail) | quiet_step (fail))
  refine wpQuiet_nil ?_
  go_wp2
  go_ret
  refine ⟨_, rfl, ?_, hbb4⟩
  have h := HO4.out.mono hbb.size
  rw [List.append_assoc, List.append_assoc, List.append_assoc] at h
  unfold cellL
  rw [if_neg hz0]
  exact h

theorem putCell_any (A : Option Addr) (n a : Nat) (l : List UInt8) (c : PC) (w : World) (hr : Rd w A l) (hn : l.length = n) (hb : n ≤ 100000) (hk : okKey c.k) (hv : okBody c) :
    Calls Tryd.prog 36 #[.slice A n a, cellV c] w fun e w' => ∃ v, e = .returned v ∧ OB w' w.heap.size v (l ++ cellL c) ∧ Below w.heap.size w w' := by
  rcases hv with ⟨h1, h2, h3⟩ | ⟨h1, h2, h3, h4⟩
  · exact putCell_in A n a l c w hr hn hb hk h3 h1
  · exact putCell_on A n a l c w hr hn hb hk (by omega) (by omega) (okNum_lt h4)

theorem ob_one (W : World) (k : UInt8) (y : Value) (hy : y = u8 k) : OB (W.alloc (.cells #[y] 5)) W.heap.size (.slice (some ⟨W.heap.size, 0, none⟩) 1 1) [k] := by
  subst hy
  exact ⟨rfl, .inr ⟨W.heap.size, 1, _, rfl, Nat.le_refl _, heap_alloc_new W _, Nat.le_refl _, by simp [maxLen], rfl, rfl⟩⟩

/-- append([]byte{k}, x), where k's row was made just behind the box. -/
theorem start_row (w : World) (X : Obj) (k x : UInt8) (y z : Value) (hy : y = u8 k) (hz : z = u8 x) :
    ∃ v' w2, (Builtin.append_ #[28, 28] 28 #[.slice (some ⟨w.heap.size + 1, 0, none⟩) 1 1, .slice (some ⟨w.heap.size + 1 + 1, 0, none⟩) 1 1]).run Tryd.prog (((w.alloc X).alloc (.cells #[y] 5)).alloc (.cells #[z] 5)) = .ok v' w2 ∧
      OB w2 w.heap.size v' [k, x] ∧ Below w.heap.size w w2 ∧ Below (w.alloc X).heap.size (w.alloc X) w2 := by
  have hx : Below w.heap.size w (w.alloc X) := (Below.refl _ _).alloc (Nat.le_refl _) _
  have h1 := ob_one (w.alloc X) k y hy
  have hy1 : Below (w.alloc X).heap.size (w.alloc X) ((w.alloc X).alloc (.cells #[y] 5)) := (Below.refl _ _).alloc (Nat.le_refl _) _
  obtain ⟨v', w2, h2, h3, h4⟩ := append_byte 28 h1 (by simp) x z hz (by simp)
  have hz1 : Below (w.alloc X).heap.size (w.alloc X) (((w.alloc X).alloc (.cells #[y] 5)).alloc (.cells #[z] 5)) := hy1.alloc hy1.size _
  have hz2 : Below (w.alloc X).heap.size (w.alloc X) w2 := hz1.grown h4 hz1.size (fun q hq => by
    have : (w.alloc X).heap.size = q := by simpa [Value.ownBlock] using hq
    omega)
  refine ⟨v', w2, ?_, h3.mono hx.size, bthen hx hz2, hz2⟩
  simpa using h2

set_option maxRecDepth 100000 in
set_option maxHeartbeats 1000000 in
theorem content_leaf (p : PP) (A B : Option Addr) (a b : Nat) (w : World) (hA : Ls pcC w A p.cells) (hk : p.kind = 1) (hp : okLeaf p) :
    Calls Tryd.prog 20 #[pageV p A a B b] w fun e w' => ∃ v, e = .returned v ∧ OB w' w.heap.size v (contL p) ∧ Below w.heap.size w w' := by
  obtain ⟨pk, pc, pd, pp, pn⟩ := p
  obtain ⟨_, _, hpn, hc⟩ := hp
  unfold pageV
  simp only at *
  subst hk hpn
  obtain ⟨n, hn⟩ : ∃ n, n = pc.length := ⟨_, rfl⟩
  obtain ⟨m, hm⟩ : ∃ m, m = pd.length := ⟨_, rfl⟩
  rw [← hn, ← hm]
  have hn4 : n ≤ 4 := by rw [hn]; exact hc.1
  have Hn := Lib.hid hn
  have HC := Lib.hid hc
  clear hn hm hc
  obtain ⟨v0, w0, hrun, ho0, hb0, hbx⟩ := start_row w (.cells #[.int .i64 1, .slice A n a, .slice B m b, .string pp, .int .i64 0] 35) 1 (b8 n) (.int .u8 1) (.int .u8 n) rfl (by rw [u8_b8, Int.emod_eq_of_lt (by omega) (by omega)])
  have HR := Lib.hid hrun
  have HO := Lib.hid ho0
  have hc1 : w0.cell? ⟨w.heap.size, 1, none⟩ = some (.slice A n a) := (hbx.cell (by simp)).trans (new_row w #[.int .i64 1, .slice A n a, .slice B m b, .string pp, .int .i64 0] 35 1 _ rfl)
  have hc0 : w0.cell? ⟨w.heap.size, 0, none⟩ = some (.int .i64 1) := (hbx.cell (by simp)).trans (new_row w #[.int .i64 1, .slice A n a, .slice B m b, .string pp, .int .i64 0] 35 0 _ rfl)
  clear hrun ho0 hbx
  go_enter Tryd.func20, Tryd.ntmps20
  go_wp2_with (at_builtin; refine wpList_append_ran rfl (.tmp 16) (.tmp 21) 28 rfl _ _ _ _ rfl rfl HR.out ?_)
  go_loopw [3, 26] (fun s3 i wr => ∃ k : Nat, k ≤ n ∧ i = .int .i64 k ∧ OB wr w.heap.size s3 (1 :: b8 n :: (pc.take k).flatMap cellL) ∧ Below w.heap.size w wr) (fun _ i _ => n - (intOf i).toNat)
  case atStart => exact ⟨0, Nat.zero_le _, rfl, HO.out, hb0⟩
  case round =>
    obtain ⟨k, hk, rfl, hown, hbw⟩ := hrel
    have HW := Lib.hid hown
    clear hown
    by_cases hlt : k < n
    · obtain ⟨ad, x, rfl, hx, hl, c1, c2, c3, c4⟩ := (hA.below hbw).atC (i := k) (by rw [← Hn.out]; exact hlt)
      have hm := List.mem_of_getElem? hx
      have Hk := Lib.hid (okKeys_cells HC.out.2.2 hm)
      have Hb := Lib.hid (HC.out.2.1 x hm)
      have Hx := Lib.hid hx
      clear hx hm
      obtain ⟨A2, n2, c2', rfl, hn2, hc2, hr2⟩ := HW.out.named
      have hl2 : (1 :: b8 n :: (pc.take k).flatMap cellL).length ≤ 1000 := by
        have := flat_len (f := cellL) (m := 53) (pc.take k) (fun c hc => cellL_len (okKeys_cells HC.out.2.2 (List.mem_of_mem_take hc)) (HC.out.2.1 c (List.mem_of_mem_take hc)))
        rw [List.length_take] at this
        simp only [List.length_cons]
        omega
      rw [hn2] at hl2
      have Hn2 := Lib.hid hn2
      clear hn2
      have hb1 : Below wr.heap.size wr (wr.alloc (.cells #[.string x.k, .string x.v, .int .i64 x.sz, .int .i64 x.st] 57)) := (Below.refl _ _).alloc (Nat.le_refl _) _
      go_wp2_with fail
      refine (putCell_any A2 n2 c2' _ x _ (hr2.below hb1) Hn2.out (by omega) Hk.out Hb.out).mono ?_
      rintro e w3 ⟨v3, rfl, ho3, hb3⟩
      have HO3 := Lib.hid (ho3.mono (b' := w.heap.size) (bthen hbw hb1).size)
      have hbb := bthen (bthen hbw hb1) hb3
      clear ho3 hb3 hb1
      go_wp2
      refine ⟨⟨k + 1, by omega, by go_num, ?_, hbb⟩, by simp [intOf]; omega⟩
      rw [take_snocA Hx.out, List.flatMap_append]
      simpa using HO3.out
    · have he : k = n := by omega
      subst he
      go_wp2
      go_ret
      refine ⟨_, rfl, ?_, hbw⟩
      have h := HW.out
      rw [List.take_of_length_le (by rw [← Hn.out]; exact Nat.le_refl _)] at h
      unfold contL
      rw [if_pos rfl]
      simp only
      rw [← Hn.out]
      exact h

set_option maxRecDepth 100000 in
set_option maxHeartbeats 1000000 in
theorem content_branch (p : PP) (A B : Option Addr) (a b : Nat) (w : World) (hB : Ls pcK w B p.kids) (hk : p.kind = 2) (hp : okBranch p) :
    Calls Tryd.prog 20 #[pageV p A a B b] w fun e w' => ∃ v, e = .returned v ∧ OB w' w.heap.size v (contL p) ∧ Below w.heap.size w w' := by
  obtain ⟨pk, pc, pd, pp, pn⟩ := p
  obtain ⟨_, _, hpn, hc⟩ := hp
  unfold pageV
  simp only at *
  subst hk hpn
  obtain ⟨n, hn⟩ : ∃ n, n = pc.length := ⟨_, rfl⟩
  obtain ⟨m, hm⟩ : ∃ m, m = pd.length := ⟨_, rfl⟩
  rw [← hn, ← hm]
  have hn4 : m ≤ 6 := by rw [hm]; exact hc.2.1
  have Hn := Lib.hid hm
  have HC := Lib.hid hc
  clear hn hm hc
  obtain ⟨v0, w0, hrun, ho0, hb0, hbx⟩ := start_row w (.cells #[.int .i64 2, .slice A n a, .slice B m b, .string pp, .int .i64 0] 35) 2 (b8 m) (.int .u8 2) (.int .u8 m) rfl (by rw [u8_b8, Int.emod_eq_of_lt (by omega) (by omega)])
  have HR := Lib.hid hrun
  have HO := Lib.hid ho0
  have hc1 : w0.cell? ⟨w.heap.size, 2, none⟩ = some (.slice B m b) := (hbx.cell (by simp)).trans (new_row w #[.int .i64 2, .slice A n a, .slice B m b, .string pp, .int .i64 0] 35 2 _ rfl)
  have hc0 : w0.cell? ⟨w.heap.size, 0, none⟩ = some (.int .i64 2) := (hbx.cell (by simp)).trans (new_row w #[.int .i64 2, .slice A n a, .slice B m b, .string pp, .int .i64 0] 35 0 _ rfl)
  clear hrun ho0 hbx
  go_enter Tryd.func20, Tryd.ntmps20
  go_wp2_with (at_builtin; refine wpList_append_ran rfl (.tmp 36) (.tmp 41) 28 rfl _ _ _ _ rfl rfl HR.out ?_)
  go_loopw [3, 46] (fun s3 i wr => ∃ k : Nat, k ≤ m ∧ i = .int .i64 k ∧ OB wr w.heap.size s3 (2 :: b8 m :: (pd.take k).flatMap kidL) ∧ Below w.heap.size w wr) (fun _ i _ => m - (intOf i).toNat)
  case atStart => exact ⟨0, Nat.zero_le _, rfl, HO.out, hb0⟩
  case round =>
    obtain ⟨k, hk, rfl, hown, hbw⟩ := hrel
    have HW := Lib.hid hown
    clear hown
    by_cases hlt : k < m
    · obtain ⟨ad, x, rfl, hx, hl, c1, c2⟩ := (hB.below hbw).atK (i := k) (by rw [← Hn.out]; exact hlt)
      have hm := List.mem_of_getElem? hx
      have hk1 := okKeys_kids HC.out.2.2.2 hm
      have hk2 := hk1.2
      have hnum := HC.out.2.2.1 x hm
      have hi64 := i64_num hnum
      have Hx := Lib.hid hx
      clear hx hm
      obtain ⟨A2, n2, c2', rfl, hn2, hc2, hr2⟩ := HW.out.named
      have hl2 : (2 :: b8 m :: (pd.take k).flatMap kidL).length ≤ 1000 := by
        have := flat_len (f := kidL) (m := 28) (pd.take k) (fun c hc => kidL_len (okKeys_kids HC.out.2.2.2 (List.mem_of_mem_take hc)))
        rw [List.length_take] at this
        simp only [List.length_cons]
        omega
      rw [hn2] at hl2
      have Hn2 := Lib.hid hn2
      clear hn2
      obtain ⟨W, hW⟩ : ∃ W, W = (wr.alloc (.cells #[.string x.k, .int .i64 x.pg] 58)).drew := ⟨_, rfl⟩
      have hb1 : Below wr.heap.size wr W := by rw [hW]; exact ((Below.refl _ _).alloc (Nat.le_refl _) _).drew
      have hsW : wr.heap.size < W.heap.size := by rw [hW]; simp
      have hq1 : ∀ q : Dc.Past [] W, q.val.cell? ⟨wr.heap.size, 0, none⟩ = some (.string x.k) := fun q =>
        (q.ok.cell (p := ⟨wr.heap.size, 0, none⟩) hsW (by simp)).trans (by rw [hW]; exact new_row wr #[.string x.k, .int .i64 x.pg] 58 0 _ rfl)
      have hq2 : ∀ q : Dc.Past [] W, q.val.cell? ⟨wr.heap.size, 1, none⟩ = some (.int .i64 x.pg) := fun q =>
        (q.ok.cell (p := ⟨wr.heap.size, 1, none⟩) hsW (by simp)).trans (by rw [hW]; exact new_row wr #[.string x.k, .int .i64 x.pg] 58 1 _ rfl)
      have HWd := Lib.hid hW
      clear hW
      go_wp2
      refine Dc.wp_region_segs 7 [] [([0, 1, 2, 4, 5], 3), ([], 6)] [7] (by kernel_rfl) (by kernel_rfl) (by kernel_rfl) (by kernel_rfl) (by kernel_rfl) (by intro c a d v w h; cases d <;> exact h) ?_
      rw [← HWd.out]
      refine Dc.wpSegs_more ?_
      simp only [Dc.pick, List.getElem?_cons_zero, List.getElem?_cons_succ]
      repeat (first | go_big_quiet_step (fail) | quiet_step (fail))
      refine wpQuiet_nil ?_
      refine Dc.wpOp_heavy rfl (by rfl) (fun K hK => ?_)
      go_simp
      refine (putText_ob A2 n2 c2' _ x.k W (hr2.below hb1) Hn2.out (by omega) (by omega)).mono ?_
      rintro y w3 ⟨v3, rfl, ho3, hb3⟩
      have HO3 := Lib.hid ho3
      have hbb := bthen hb1 hb3
      refine hK _ _ (fun _ => Dc.But.of_below hb3) ?_
      clear hK K ho3 hq1 hq2
      obtain ⟨A3, n3, c3, rfl, hn3, hc3, hr3⟩ := HO3.out.named
      have hn3' : n3 ≤ 300000 := by
        rw [← hn3, List.length_append, textL_len, Hn2.out]
        omega
      have Hn3 := Lib.hid hn3
      clear hn3
      refine Dc.wpSegs_more ?_
      simp only [Dc.pick]
      refine wpQuiet_nil ?_
      refine Dc.wpOp_heavy rfl (by rfl) (fun K hK => ?_)
      go_simp
      refine (put16_ob A3 n3 c3 _ x.pg w3 hr3 Hn3.out (by omega) hi64).mono ?_
      rintro y w4 ⟨v4, rfl, ho4, hb4⟩
      have HO4 := Lib.hid (ho4.mono (b' := w.heap.size) (bthen hbw hbb).size)
      have hbb4 := bthen (bthen hbw hbb) hb4
      refine hK _ _ (fun _ => Dc.But.of_below hb4) ?_
      clear hK K ho4
      refine Dc.wpSegs_last ?_
      simp only [Dc.pick, List.getElem?_cons_zero, List.getElem?_cons_succ]
      repeat (first | go_big_quiet_step (fail) | quiet_step (fail))
      refine wpQuiet_nil ?_
      go_wp2
      refine ⟨⟨k + 1, by omega, by go_num, ?_, hbb4⟩, by simp [intOf]; omega⟩
      rw [take_snocA Hx.out, List.flatMap_append]
      have h := HO4.out
      have hkd : kidL x = textL x.k ++ be16 x.pg := rfl
      rw [List.flatMap_cons, List.flatMap_nil, List.append_nil, hkd]
      simpa using h
    · have he : k = m := by omega
      subst he
      go_wp2
      go_ret
      refine ⟨_, rfl, ?_, hbw⟩
      have h := HW.out
      rw [List.take_of_length_le (by rw [← Hn.out]; exact Nat.le_refl _)] at h
      unfold contL
      simp only
      rw [if_neg (by omega), if_pos trivial]
      rw [← Hn.out]
      exact h

set_option maxRecDepth 100000 in
set_option maxHeartbeats 1000000 in
theorem content_chain (p : PP) (A B : Option Addr) (a b : Nat) (w : World) (hk : p.kind = 3) (hp : okChain p) :
    Calls Tryd.prog 20 #[pageV p A a B b] w fun e w' => ∃ v, e = .returned v ∧ OB w' w.heap.size v (contL p) ∧ Below w.heap.size w w' := by
  obtain ⟨pk, pc, pd, pp, pn⟩ := p
  obtain ⟨_, _, hc⟩ := hp
  unfold pageV
  simp only at *
  subst hk
  obtain ⟨n, hn⟩ : ∃ n, n = pc.length := ⟨_, rfl⟩
  obtain ⟨m, hm⟩ : ∃ m, m = pd.length := ⟨_, rfl⟩
  rw [← hn, ← hm]
  have hc1 := hc.1
  have hc2 := hc.2.1
  have hi64 : I64 pn := by
    rcases hc.2.2 with h | h
    · rw [h]; exact ⟨by omega, by omega⟩
    · exact i64_num h
  clear hn hm
  have ho := ob_one (w.alloc (.cells #[.int .i64 3, .slice A n a, .slice B m b, .string pp, .int .i64 pn] 35)) 3 (.int .u8 3) rfl
  have hx : Below w.heap.size w (w.alloc (.cells #[.int .i64 3, .slice A n a, .slice B m b, .string pp, .int .i64 pn] 35)) := (Below.refl _ _).alloc (Nat.le_refl _) _
  have hx2 := hx.alloc hx.size (.cells #[.int .u8 3] 5)
  obtain ⟨W, hW⟩ : ∃ W, W = ((w.alloc (.cells #[.int .i64 3, .slice A n a, .slice B m b, .string pp, .int .i64 pn] 35)).alloc (.cells #[.int .u8 3] 5)).drew := ⟨_, rfl⟩
  have hb1 : Below w.heap.size w W := by rw [hW]; exact hx2.drew
  have hsW : w.heap.size < W.heap.size := by rw [hW]; simp; omega
  have hbW : Below (w.alloc (.cells #[.int .i64 3, .slice A n a, .slice B m b, .string pp, .int .i64 pn] 35)).heap.size (w.alloc (.cells #[.int .i64 3, .slice A n a, .slice B m b, .string pp, .int .i64 pn] 35)) W := by rw [hW]; exact ((Below.refl _ _).alloc (Nat.le_refl _) _).drew
  have hr : Rd W (some ⟨w.heap.size + 1, 0, none⟩) [3] := by
    obtain ⟨A', n', c', h1, h2, _, h4⟩ := (show OB W _ _ _ by rw [hW]; exact ho).named
    cases h1
    simpa using h4
  have hq1 : ∀ q : Dc.Past [] W, q.val.cell? ⟨w.heap.size, 3, none⟩ = some (.string pp) := fun q =>
    (q.ok.cell (p := ⟨w.heap.size, 3, none⟩) hsW (by simp)).trans ((hbW.cell (by simp)).trans (new_row w #[.int .i64 3, .slice A n a, .slice B m b, .string pp, .int .i64 pn] 35 3 _ rfl))
  have hq2 : ∀ q : Dc.Past [] W, q.val.cell? ⟨w.heap.size, 4, none⟩ = some (.int .i64 pn) := fun q =>
    (q.ok.cell (p := ⟨w.heap.size, 4, none⟩) hsW (by simp)).trans ((hbW.cell (by simp)).trans (new_row w #[.int .i64 3, .slice A n a, .slice B m b, .string pp, .int .i64 pn] 35 4 _ rfl))
  have HWd := Lib.hid hW
  clear hW ho hx hx2 hbW
  go_enter Tryd.func20, Tryd.ntmps20
  go_wp2
  refine Dc.wp_region_segs 7 [] [([0, 1, 2, 4, 5], 3), ([], 6)] [7] (by kernel_rfl) (by kernel_rfl) (by kernel_rfl) (by kernel_rfl) (by kernel_rfl) (by intro c a d v w h; cases d <;> exact h) ?_
  rw [← HWd.out]
  refine Dc.wpSegs_more ?_
  simp only [Dc.pick, List.getElem?_cons_zero, List.getElem?_cons_succ]
  repeat (first | go_big_quiet_step (fail) | quiet_step (fail))
  refine wpQuiet_nil ?_
  refine Dc.wpOp_heavy rfl (by rfl) (fun K hK => ?_)
  go_simp
  refine (putText_ob _ 1 1 [3] pp W hr rfl (by omega) (by omega)).mono ?_
  rintro y w3 ⟨v3, rfl, ho3, hb3⟩
  have HO3 := Lib.hid ho3
  have hbb := bthen hb1 hb3
  refine hK _ _ (fun _ => Dc.But.of_below hb3) ?_
  clear hK K ho3 hq1 hq2
  obtain ⟨A3, n3, c3, rfl, hn3, hc3, hr3⟩ := HO3.out.named
  have hn3' : n3 ≤ 300000 := by
    rw [← hn3, List.length_append, textL_len]
    simp
    omega
  have Hn3 := Lib.hid hn3
  clear hn3
  refine Dc.wpSegs_more ?_
  simp only [Dc.pick]
  refine wpQuiet_nil ?_
  refine Dc.wpOp_heavy rfl (by rfl) (fun K hK => ?_)
  go_simp
  refine (put16_ob A3 n3 c3 _ pn w3 hr3 Hn3.out (by omega) hi64).mono ?_
  rintro y w4 ⟨v4, rfl, ho4, hb4⟩
  have HO4 := Lib.hid (ho4.mono (b' := w.heap.size) hbb.size)
  have hbb4 := bthen hbb hb4
  refine hK _ _ (fun _ => Dc.But.of_below hb4) ?_
  clear hK K ho4
  refine Dc.wpSegs_last ?_
  simp only [Dc.pick, List.getElem?_cons_zero, List.getElem?_cons_succ]
  repeat (first | go_big_quiet_step (fail) | quiet_step (fail))
  refine wpQuiet_nil ?_
  go_wp2
  go_ret
  refine ⟨_, rfl, ?_, hbb4⟩
  have h := HO4.out
  unfold contL
  simp only
  rw [if_neg (by omega), if_neg (by omega), if_pos trivial]
  rw [List.append_assoc] at h
  exact h

theorem content_any (p : PP) (A B : Option Addr) (a b : Nat) (w : World) (hA : Ls pcC w A p.cells) (hB : Ls pcK w B p.kids) (hp : okPage p) :
    Calls Tryd.prog 20 #[pageV p A a B b] w fun e w' => ∃ v, e = .returned v ∧ OB w' w.heap.size v (contL p) ∧ Below w.heap.size w w' := by
  rcases hp with ⟨h, hp⟩ | ⟨h, hp⟩ | ⟨h, hp⟩
  · exact content_leaf p A B a b w hA h hp
  · exact content_branch p A B a b w hB h hp
  · exact content_chain p A B a b w h hp

end Go.Proofs.YtgicomadlhnkjaaDoor
