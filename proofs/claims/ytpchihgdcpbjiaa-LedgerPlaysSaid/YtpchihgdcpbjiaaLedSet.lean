/-
  For the statement that sets the reference's three lists at once: append onto a new row, the words of that statement (what each operation yields and may turn); the call of a script in its box; conditions stand at each.
-/
import Derived.Test.YtpchihgdcpbjiaaLedRefT
import Derived.Test.YtpchihgdcpbjiaaDrawnX
namespace Go.Proofs.Ytpchihgdcpbjiaa
open Go.RowKit Go.Sort
set_option linter.unusedVariables false
set_option linter.unusedSimpArgs false

/-- The box of a call of a script. -/
def BoxO (w : World) (g : Nat) (o : LOp) : Prop := w.heap[g]? = some (.cells #[.int .i64 o.kind, .slice o.A o.n o.c, .slice o.B o.m o.d] 31 (0, 0))
theorem BoxO.below {w w' : World} {g : Nat} {o : LOp} (h : BoxO w g o) (hb : Below w.heap.size w w') : BoxO w' g o := (hb.block g (lt_of_block h)).trans h
theorem BoxO.rk {B : Nat} {w w' : World} {g : Nat} {o : LOp} (h : BoxO w g o) (hk : RK B w w') : BoxO w' g o := hk.box h (by decide) (by decide)
theorem BoxO.led {w w' : World} {g b n : Nat} {o : LOp} {p v t : Nat → Bool} (h : BoxO w g o) (hd : Led w b n p v t) (hk : Keep (fun i => i = b) w w') : BoxO w' g o := (hk.block g (lt_of_block h) (by
  rintro rfl
  obtain ⟨ds, hb, _⟩ := hd.box
  rw [show w.heap[g]? = _ from h] at hb
  cases hb)).trans h

/-- append(v, l...): v an empty row without room. -/
theorem run_append_empty {w : World} {h B : Nat} (hh : w.heap[h]? = some (.cells #[] 3 (0, 0))) {A : Option Addr} {l : List Int} {n c : Nat} (hr : Ls icell w A l) (hn : l.length = n) (hb : n ≤ 1000) (hB : B ≤ h) (hBs : B ≤ w.heap.size) :
    ∃ v' w', (Builtin.append_ #[29, 29] 29 #[.slice (some ⟨h, 0, none⟩) 0 0, .slice A n c]).run Try.prog w = .ok v' w' ∧ OwnI w' B v' l ∧ Below w.heap.size w w' := by
  subst hn
  obtain ⟨i0, hi0, hz0, hz1, hz2⟩ := info_parts iinfo
  have hu := Try.underlying29
  rcases Nat.eq_zero_or_pos l.length with h0 | h0
  · obtain rfl := List.eq_nil_of_length_eq_zero h0
    refine ⟨.slice (some ⟨h, 0, none⟩) 0 0, w, ?_, ⟨by simp, .inr ⟨h, 0, #[], rfl, hB, hh, Nat.le_refl _, Nat.zero_le _, rfl, by simp⟩⟩, Below.refl _ _⟩
    rcases A with _ | ad
    · simp [Builtin.append_, run_underlying hu, sizeOf, typeInfo, hi0, Builtin.lenOf, Builtin.firstCells, storeCells]
    · simp [Builtin.append_, run_underlying hu, sizeOf, typeInfo, hi0, Builtin.lenOf, Builtin.firstCells, storeCells, loadCells, loadCellsFrom]
  · obtain ⟨ad, rfl, _, hc⟩ := hr h0
    have hr := run_append_grow (P := Try.prog) w 29 29 3 i0 (.int .i64 0) hu hi0 hz0 ⟨h, 0, none⟩ 0 0 [] (by simp) (by simp) ad l.length c (l.flatMap icell) (by rw [ienc.flen, hz1]) hc (by omega) (by omega) (growslice_fits (by omega) (by rw [hz2]; omega))
    refine ⟨_, _, hr, ⟨ienc.flen l, .inr ⟨w.heap.size, _, _, by rw [Nat.zero_add], hBs, heap_alloc_new w.drew _, grownCap_ge w _ 0 _, grownCap_le_maxLen w _ 0 _ (by simp only [maxLen]; omega), ?_, ?_⟩⟩, (Below.refl _ _).drew.alloc (Nat.le_refl _) _⟩
    · have hge := grownCap_ge w l.length 0 3
      simp only [Array.size_append, List.size_toArray, size_zeroCells, ienc.flen, Nat.zero_add, List.length_nil, Value.cells]
      simp
      omega
    · simp only [Array.toList_append, List.append_assoc, List.nil_append]
      rw [← ienc.flen l]
      exact List.take_left

/-- What stands at that statement: the reference's box b, the call's box g, the base. -/
structure KS where
  w0 : World
  B : Nat
  b : Nat
  n : Nat
  g : Nat
  o : LOp
def KS.Bx (x : KS) (w : World) (u1 u2 u3 : Value) : Prop := w.heap[x.b]? = some (.cells #[.int .i64 (x.n : Int), u1, u2, u3] 40 (0, 0))
structure KS.G (x : KS) (w : World) : Prop where
  keep : Keep (fun i => i = x.b) x.w0 w
  box : ∃ u1 u2 u3, x.Bx w u1 u2 u3
  base : x.B ≤ w.heap.size
def Emp (B : Nat) (v : Value) (w : World) : Prop := ∃ h, v = .slice (some ⟨h, 0, none⟩) 0 0 ∧ w.heap[h]? = some (.cells #[] 3 (0, 0)) ∧ B ≤ h
def KS.V (x : KS) : Nat → Value → World → Prop
  | 0, v, _ => v = .pointer (some ⟨x.b, 0, none⟩)
  | 1, v, _ => v = .pointer (some ⟨x.b, 0, none⟩)
  | 2, v, _ => v = .pointer (some ⟨x.b, 0, none⟩)
  | 3, v, w => Emp x.B v w
  | 4, v, _ => v = .pointer (some ⟨x.g, 1, none⟩)
  | 5, v, _ => v = .slice x.o.A x.o.n x.o.c
  | 6, v, w => OwnI w x.B v x.o.l
  | 7, v, w => Emp x.B v w
  | 8, v, _ => v = .pointer (some ⟨x.g, 2, none⟩)
  | 9, v, _ => v = .slice x.o.B x.o.m x.o.d
  | 10, v, w => OwnI w x.B v x.o.r
  | 11, v, _ => v = .pointer (some ⟨x.b, 0, none⟩)
  | 12, v, _ => v = .pointer (some ⟨x.b, 1, none⟩)
  | 13, _, w => ∃ u1 u2 u3, x.Bx w u1 u2 u3 ∧ OwnI w x.B u1 x.o.l
  | 14, v, _ => v = .pointer (some ⟨x.b, 0, none⟩)
  | 15, v, _ => v = .pointer (some ⟨x.b, 2, none⟩)
  | 16, _, w => ∃ u1 u2 u3, x.Bx w u1 u2 u3 ∧ OwnI w x.B u2 x.o.r
  | 17, v, _ => v = .pointer (some ⟨x.b, 0, none⟩)
  | 18, v, _ => v = .pointer (some ⟨x.b, 3, none⟩)
  | 19, _, w => ∃ u1 u2, x.Bx w u1 u2 (.slice none 0 0)
  | _, _, _ => True
def KS.S (x : KS) (i : Nat) (w w' : World) : Prop := Below w.heap.size w w' ∨ ∃ q u, ((i = 13 ∧ q = 1) ∨ (i = 16 ∧ q = 2) ∨ (i = 19 ∧ q = 3)) ∧ w' = w.setCell ⟨x.b, q, none⟩ u
def KS.D (x : KS) : Dx.Words := ⟨x.G, fun _ _ => True, x.V, x.S⟩
theorem KS.quiet (x : KS) (i : Nat) (w : World) : x.S i w w := .inl (Below.refl _ _)
theorem KS.Bx.set1 {x : KS} {w : World} {u1 u2 u3 : Value} (h : x.Bx w u1 u2 u3) (u : Value) : x.Bx (w.setCell ⟨x.b, 1, none⟩ u) u u2 u3 := by
  have := blk_set h 1 u
  simpa [KS.Bx] using this
theorem KS.Bx.set2 {x : KS} {w : World} {u1 u2 u3 : Value} (h : x.Bx w u1 u2 u3) (u : Value) : x.Bx (w.setCell ⟨x.b, 2, none⟩ u) u1 u u3 := by
  have := blk_set h 2 u
  simpa [KS.Bx] using this
theorem KS.Bx.set3 {x : KS} {w : World} {u1 u2 u3 : Value} (h : x.Bx w u1 u2 u3) (u : Value) : x.Bx (w.setCell ⟨x.b, 3, none⟩ u) u1 u2 u := by
  have := blk_set h 3 u
  simpa [KS.Bx] using this
theorem KS.Bx.row {x : KS} {w : World} {u1 u2 u3 : Value} (h : x.Bx w u1 u2 u3) {h' : Nat} {cs : Array Value} (hc : w.heap[h']? = some (.cells cs 3 (0, 0))) : h' ≠ x.b := by
  rintro rfl
  rw [show w.heap[x.b]? = _ from h] at hc
  cases hc
theorem KS.Bx.emp {x : KS} {w : World} {u1 u2 u3 : Value} (h : x.Bx w u1 u2 u3) {v : Value} (he : Emp x.B v w) (q : Nat) (u : Value) : Emp x.B v (w.setCell ⟨x.b, q, none⟩ u) := by
  obtain ⟨k, e, hk, hB⟩ := he
  exact ⟨k, e, (Below.heap_setCell _ _ _ _ (h.row hk)).trans hk, hB⟩
theorem KS.Bx.own {x : KS} {w : World} {u1 u2 u3 : Value} (h : x.Bx w u1 u2 u3) {v : Value} {l : List Int} (he : OwnI w x.B v l) (q : Nat) (u : Value) : OwnI (w.setCell ⟨x.b, q, none⟩ u) x.B v l := OwnL.keep he fun k hk hl => Below.heap_setCell _ _ _ _ (by
  obtain ⟨_, cs, hc⟩ := OwnI.row he k hk
  exact h.row hc)
theorem Emp.below {B : Nat} {v : Value} {w w' : World} (h : Emp B v w) (hb : Below w.heap.size w w') : Emp B v w' := by
  obtain ⟨k, e, hk, hB⟩ := h
  exact ⟨k, e, (hb.block k (lt_of_block hk)).trans hk, hB⟩
theorem KS.Bx.below {x : KS} {w w' : World} {u1 u2 u3 : Value} (h : x.Bx w u1 u2 u3) (hb : Below w.heap.size w w') : x.Bx w' u1 u2 u3 := (hb.block _ (lt_of_block h)).trans h
theorem KS.ok (x : KS) (l : List Oper) : x.D.Ok l := by
  refine ⟨fun i w w' hG hS => ?_, fun i j w w' hij hG hN hS => trivial, fun i j u w w' hij hdd hG hV hS => ?_⟩
  · have hG : x.G w := hG
    rcases hS with hb | ⟨q, u, hq, rfl⟩
    · obtain ⟨u1, u2, u3, h⟩ := hG.box
      exact ⟨hG.keep.trans (Keep.of_below hb), ⟨u1, u2, u3, h.below hb⟩, Nat.le_trans hG.base hb.size⟩
    · obtain ⟨u1, u2, u3, h⟩ := hG.box
      refine ⟨hG.keep.set (p := ⟨x.b, q, none⟩) (.inl rfl) u, ?_, by simpa [World.setCell] using hG.base⟩
      rcases hq with ⟨_, rfl⟩ | ⟨_, rfl⟩ | ⟨_, rfl⟩
      · exact ⟨_, _, _, h.set1 u⟩
      · exact ⟨_, _, _, h.set2 u⟩
      · exact ⟨_, _, _, h.set3 u⟩
  · have hG : x.G w := hG
    have hV : x.V i u w := hV
    show x.V i u w'
    rcases hS with hb | ⟨q, uu, hq, rfl⟩
    · match i, hV with
      | 0, hV => exact hV
      | 1, hV => exact hV
      | 2, hV => exact hV
      | 3, hV => exact Emp.below hV hb
      | 4, hV => exact hV
      | 5, hV => exact hV
      | 6, hV => exact OwnL.below hV hb
      | 7, hV => exact Emp.below hV hb
      | 8, hV => exact hV
      | 9, hV => exact hV
      | 10, hV => exact OwnL.below hV hb
      | 11, hV => exact hV
      | 12, hV => exact hV
      | 13, ⟨u1, u2, u3, h, ho⟩ => exact ⟨u1, u2, u3, h.below hb, OwnL.below ho hb⟩
      | 14, hV => exact hV
      | 15, hV => exact hV
      | 16, ⟨u1, u2, u3, h, ho⟩ => exact ⟨u1, u2, u3, h.below hb, OwnL.below ho hb⟩
      | 17, hV => exact hV
      | 18, hV => exact hV
      | 19, ⟨u1, u2, h⟩ => exact ⟨u1, u2, h.below hb⟩
      | i + 20, _ => trivial
    · obtain ⟨y1, y2, y3, hbx⟩ := hG.box
      match i, hij, hV with
      | 0, _, hV => exact hV
      | 1, _, hV => exact hV
      | 2, _, hV => exact hV
      | 3, _, hV => exact hbx.emp hV q uu
      | 4, _, hV => exact hV
      | 5, _, hV => exact hV
      | 6, _, hV => exact hbx.own hV q uu
      | 7, _, hV => exact hbx.emp hV q uu
      | 8, _, hV => exact hV
      | 9, _, hV => exact hV
      | 10, _, hV => exact hbx.own hV q uu
      | 11, _, hV => exact hV
      | 12, _, hV => exact hV
      | 13, hij, ⟨u1, u2, u3, h, ho⟩ =>
        rcases hq with ⟨e, rfl⟩ | ⟨_, rfl⟩ | ⟨_, rfl⟩
        · exact absurd e.symm hij
        · exact ⟨_, _, _, h.set2 uu, h.own ho _ _⟩
        · exact ⟨_, _, _, h.set3 uu, h.own ho _ _⟩
      | 14, _, hV => exact hV
      | 15, _, hV => exact hV
      | 16, hij, ⟨u1, u2, u3, h, ho⟩ =>
        rcases hq with ⟨_, rfl⟩ | ⟨e, rfl⟩ | ⟨_, rfl⟩
        · exact ⟨_, _, _, h.set1 uu, h.own ho _ _⟩
        · exact absurd e.symm hij
        · exact ⟨_, _, _, h.set3 uu, h.own ho _ _⟩
      | 17, _, hV => exact hV
      | 18, _, hV => exact hV
      | 19, hij, ⟨u1, u2, h⟩ =>
        rcases hq with ⟨_, rfl⟩ | ⟨_, rfl⟩ | ⟨e, rfl⟩
        · exact ⟨_, _, h.set1 uu⟩
        · exact ⟨_, _, h.set2 uu⟩
        · exact absurd e.symm hij
      | i + 20, _, _ => trivial
/-- Only these have no slot. -/
def noneL (l : List Oper) (zs : List Nat) : Bool := (List.range l.length).all fun i => zs.contains i || ((l[i]?).bind (·.dst)).isSome
theorem KS.none (x : KS) {l : List Oper} (h : noneL l [13, 16, 19] = true) : ∀ (i : Nat) (o : Oper), l[i]? = some o → o.dst = none → ∀ v w, x.D.V i v w → x.D.V i undef w := by
  intro i o ho hd v w hv
  have h1 := List.all_eq_true.1 h i (List.mem_range.2 (List.getElem?_eq_some_iff.1 ho).1)
  rw [ho, Option.bind_some, hd] at h1
  have e : i = 13 ∨ i = 16 ∨ i = 19 := by simpa using h1
  rcases e with rfl | rfl | rfl <;> exact hv
/-- At the end. -/
theorem KS.done (x : KS) {w : World} (hG : x.G w) {f : Nat → Value} (h13 : x.V 13 (f 13) w) (h16 : x.V 16 (f 16) w) (h19 : x.V 19 (f 19) w) {vO vN vT : Value} {lo ln lt : List Int} (h : RefL x.B x.w0 x.b x.n vO vN vT lo ln lt) (s1 : x.o.l.length ≤ 1000) (s2 : x.o.r.length ≤ 1000) :
    RefI x.B w x.b x.n x.o.l x.o.r [] ∧ RK x.B x.w0 w := by
  obtain ⟨u1, u2, u3, hb1, ho1⟩ := h13
  obtain ⟨y1, y2, y3, hb2, ho2⟩ := h16
  obtain ⟨z1, z2, hb3⟩ := h19
  have e1 := (show w.heap[x.b]? = _ from hb1).symm.trans hb2
  have e2 := (show w.heap[x.b]? = _ from hb1).symm.trans hb3
  simp only [Option.some.injEq, Obj.cells.injEq, Array.mk.injEq, List.cons.injEq, and_true, true_and] at e1 e2
  obtain ⟨rfl, rfl, rfl⟩ := e1
  obtain ⟨rfl, rfl, rfl⟩ := e2
  exact ⟨⟨_, _, _, hb1, ho1, ho2, OwnL.nil_ _ _ _, fun g hg => absurd hg (no_own g), fun g hg => absurd hg (no_own g), h.above, h.small, s1, s2, by simp⟩, hG.keep.mono fun i _ e => by
    subst e
    exact ⟨h.above, _, _, h.box, .inl rfl⟩⟩

end Go.Proofs.Ytpchihgdcpbjiaa
