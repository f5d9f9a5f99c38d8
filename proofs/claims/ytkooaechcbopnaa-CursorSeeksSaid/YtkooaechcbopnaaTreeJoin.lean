/-
  The contract of parts.join, whatever order is drawn; conditions: the parts can be read, few elements.
-/
import Derived.Test.YtkooaechcbopnaaTreeRepl
import Derived.Test.YtkooaechcbopnaaDrawnX
namespace Go.Proofs.Ytkooaechcbopnaa
open Go.RowKit Go.Sort
set_option linter.unusedVariables false
set_option linter.unusedSimpArgs false

/-- What stands at parts.join. -/
structure JS where
  w : World
  w0 : World
  A1 : Option Addr
  n1 : Nat
  c1 : Nat
  B1 : Option Addr
  m1 : Nat
  d1 : Nat
  A2 : Option Addr
  n2 : Nat
  c2 : Nat
  B2 : Option Addr
  m2 : Nat
  d2 : Nat
  L : List Ent
  P : List (Option Nat)
def JS.g (x : JS) : Nat := x.w.heap.size + 1 + 1
def JS.u1 (x : JS) : Value := .slice x.A1 x.n1 x.c1
def JS.u2 (x : JS) : Value := .slice x.A2 x.n2 x.c2
def JS.v1 (x : JS) : Value := .slice x.B1 x.m1 x.d1
def JS.v2 (x : JS) : Value := .slice x.B2 x.m2 x.d2
def Duo (w0 : World) (u v : Value) (t : TypeId) (r : Value) (w : World) : Prop := ∃ k, r = .slice (some ⟨k, 0, none⟩) 2 2 ∧ w.heap[k]? = some (.cells #[u, v] t (0, 0)) ∧ w0.heap.size ≤ k
theorem Duo.below {w0 : World} {u v r : Value} {t : TypeId} {w w' : World} (h : Duo w0 u v t r w) (hb : Below w.heap.size w w') : Duo w0 u v t r w' := by
  obtain ⟨k, e, hk, hge⟩ := h
  exact ⟨k, e, (hb.block k (lt_of_block hk)).trans hk, hge⟩
theorem Duo.off {w0 : World} {u v r : Value} {t : TypeId} {w w' : World} {g : Nat} (h : Duo w0 u v t r w) (hb : Off g w w') (hg : g < w0.heap.size) : Duo w0 u v t r w' := by
  obtain ⟨k, e, hk, hge⟩ := h
  exact ⟨k, e, (hb.block k (lt_of_block hk) (by omega)).trans hk, hge⟩
theorem Duo.new {w0 w : World} (u v : Value) (t : TypeId) (hs : w0.heap.size ≤ w.heap.size) : Duo w0 u v t (.slice (some ⟨w.heap.size, 0, none⟩) 2 2) (w.alloc (.cells #[u, v] t)) := ⟨_, rfl, heap_alloc_new w _, hs⟩
def SlE (w : World) (v : Value) (l : List Ent) : Prop := ∃ A c, v = .slice A l.length c ∧ l.length ≤ c ∧ Es w A l
def SlP (w : World) (v : Value) (l : List (Option Nat)) : Prop := ∃ A c, v = .slice A l.length c ∧ l.length ≤ c ∧ Ls pcP w A l
def JS.last (x : JS) (w : World) : Prop := ∃ A a c B b d, Pt w (.agg #[.slice A a c, .slice B b d]) x.L x.P ∧ w.heap[x.g]? = some (.cells #[.slice A a c, .slice B b d] 65 (0, 0))
def JS.V (x : JS) : Nat → Value → World → Prop
  | 0, v, _ => v = .pointer (some ⟨x.w.heap.size, 0, none⟩)
  | 1, v, _ => v = x.u1
  | 2, v, _ => v = .pointer (some ⟨x.w.heap.size + 1, 0, none⟩)
  | 3, v, _ => v = x.u2
  | 4, v, w => Duo x.w0 x.u1 x.u2 22 v w
  | 5, v, w => SlE w v x.L
  | 6, v, _ => v = .pointer (some ⟨x.w.heap.size, 1, none⟩)
  | 7, v, _ => v = x.v1
  | 8, v, _ => v = .pointer (some ⟨x.w.heap.size + 1, 1, none⟩)
  | 9, v, _ => v = x.v2
  | 10, v, w => Duo x.w0 x.v1 x.v2 63 v w
  | 11, v, w => SlP w v x.P
  | 12, v, w => Pt w v x.L x.P
  | 13, _, w => x.last w
  | _, _, _ => True
structure JS.G (x : JS) (w : World) : Prop where
  below : Below x.w.heap.size x.w w
  size : x.w0.heap.size ≤ w.heap.size
  block : ∀ i, i < x.w0.heap.size → i ≠ x.g → w.heap[i]? = x.w0.heap[i]?
def JS.Bx (x : JS) (w : World) : Prop := w.heap[x.g]? = some (.cells #[.slice none 0 0, .slice none 0 0] 65 (0, 0))
def JS.N (x : JS) : Nat → World → Prop
  | 13, w => x.Bx w
  | _, _ => True
def JS.S (x : JS) (i : Nat) (w w' : World) : Prop := (i ≠ 13 ∧ Below w.heap.size w w') ∨ (i = 13 ∧ Off x.g w w' ∧ ∃ u v, w' = World.two w x.g u v)
def JS.D (x : JS) : Dx.Words := ⟨x.G, x.N, x.V, x.S⟩
theorem JS.quiet (x : JS) {i : Nat} (hi : i ≠ 13) (w : World) : x.S i w w := .inl ⟨hi, Below.refl _ _⟩
theorem JS.step (x : JS) {i : Nat} (hi : i ≠ 13) {w w' : World} (h : Below w.heap.size w w') : x.S i w w' := .inl ⟨hi, h⟩
theorem JS.ok (x : JS) (hg : x.g < x.w0.heap.size) (l : List Oper) : x.D.Ok l := by
  refine ⟨fun i w w' hG hS => ?_, fun i j w w' hij hG hN hS => ?_, fun i j u w w' hij hdd hG hV hS => ?_⟩
  · have hG : x.G w := hG
    rcases hS with ⟨_, hb⟩ | ⟨_, ho, u, v, rfl⟩
    · exact ⟨bthen hG.below hb, Nat.le_trans hG.size hb.size, fun k hk hne => (hb.block k (Nat.lt_of_lt_of_le hk hG.size)).trans (hG.block k hk hne)⟩
    · exact ⟨two_below hG.below (by unfold JS.g; omega) u v, by rw [two_size]; exact hG.size, fun k hk hne => (two_other w x.g u v k hne).trans (hG.block k hk hne)⟩
  · have hG : x.G w := hG
    by_cases h13 : i = 13
    · subst h13
      rcases hS with ⟨_, hb⟩ | ⟨hj, _⟩
      · exact (hb.block _ (Nat.lt_of_lt_of_le hg hG.size)).trans hN
      · exact absurd hj.symm hij
    · show x.N i w'
      unfold JS.N
      split
      · exact absurd rfl h13
      · trivial
  · have hG : x.G w := hG
    have hV : x.V i u w := hV
    show x.V i u w'
    rcases hS with ⟨_, hb⟩ | ⟨hj, ho, _⟩
    · match i, hV with
      | 0, hV => exact hV
      | 1, hV => exact hV
      | 2, hV => exact hV
      | 3, hV => exact hV
      | 4, hV => exact Duo.below hV hb
      | 5, ⟨A, c, h1, h2, h3⟩ => exact ⟨A, c, h1, h2, h3.below hb⟩
      | 6, hV => exact hV
      | 7, hV => exact hV
      | 8, hV => exact hV
      | 9, hV => exact hV
      | 10, hV => exact Duo.below hV hb
      | 11, ⟨A, c, h1, h2, h3⟩ => exact ⟨A, c, h1, h2, h3.below hb⟩
      | 12, hV => exact Pt.below hV hb
      | 13, ⟨A, a, c, B, b, d, h1, h2⟩ => exact ⟨A, a, c, B, b, d, h1.below hb, (hb.block _ (Nat.lt_of_lt_of_le hg hG.size)).trans h2⟩
      | i + 14, _ => trivial
    · have h13 : i ≠ 13 := fun e => hij (e.trans hj.symm)
      match i, h13, hV with
      | 0, _, hV => exact hV
      | 1, _, hV => exact hV
      | 2, _, hV => exact hV
      | 3, _, hV => exact hV
      | 4, _, hV => exact Duo.off hV ho hg
      | 5, _, ⟨A, c, h1, h2, h3⟩ => exact ⟨A, c, h1, h2, h3.off ho⟩
      | 6, _, hV => exact hV
      | 7, _, hV => exact hV
      | 8, _, hV => exact hV
      | 9, _, hV => exact hV
      | 10, _, hV => exact Duo.off hV ho hg
      | 11, _, ⟨A, c, h1, h2, h3⟩ => exact ⟨A, c, h1, h2, h3.off ho⟩
      | 12, _, hV => exact Pt.off hV ho
      | i + 14, _, _ => trivial
theorem cells2 {w : World} {g : Nat} {A B : Option Addr} {c d a b : Nat} {l m : List (Option Nat)} {t : TypeId} (h : w.heap[g]? = some (.cells #[.slice A a c, .slice B b d] t (0, 0))) (hl : Ls pcP w A l) (hm : Ls pcP w B m) (ha : l.length = a) (hb : m.length = b) :
    ∀ j p, ([⟨A, c, l⟩, ⟨B, d, m⟩] : List PartP)[j]? = some p → w.cell? ((⟨g, 0, none⟩ : Addr).add j) = some (.slice p.A p.l.length p.c) ∧ Ls pcP w p.A p.l := by
  subst ha hb
  intro j p hp
  match j, hp with
  | 0, hp =>
    cases hp
    exact ⟨cell_at h 0 _ rfl, hl⟩
  | 1, hp =>
    cases hp
    exact ⟨cell_at h 1 _ rfl, hm⟩
theorem cells2E {w : World} {g : Nat} {A B : Option Addr} {c d a b : Nat} {l m : List Ent} {t : TypeId} (h : w.heap[g]? = some (.cells #[.slice A a c, .slice B b d] t (0, 0))) (hl : Es w A l) (hm : Es w B m) (ha : l.length = a) (hb : m.length = b) :
    ∀ j p, ([⟨A, c, l⟩, ⟨B, d, m⟩] : List Part)[j]? = some p → w.cell? ((⟨g, 0, none⟩ : Addr).add j) = some (.slice p.A p.l.length p.c) ∧ Es w p.A p.l := by
  subst ha hb
  intro j p hp
  match j, hp with
  | 0, hp =>
    cases hp
    exact ⟨cell_at h 0 _ rfl, hl⟩
  | 1, hp =>
    cases hp
    exact ⟨cell_at h 1 _ rfl, hm⟩

set_option maxHeartbeats 2000000 in
set_option maxRecDepth 100000 in
theorem join_pt {w : World} {v v' : Value} {l l' : List Ent} {p p' : List (Option Nat)} (h1 : Pt w v l p) (h2 : Pt w v' l' p') (hl : l.length + l'.length ≤ 1000) (hp : p.length + p'.length ≤ 1000) :
    Calls Try.prog 54 #[v, v'] w fun e w' => ∃ u, e = .returned u ∧ Pt w' u (l ++ l') (p ++ p') ∧ Below w.heap.size w w' := by
  obtain ⟨A1, c1, B1, d1, rfl, hc1, hd1, he1, hl1⟩ := h1
  obtain ⟨A2, c2, B2, d2, rfl, hc2, hd2, he2, hl2⟩ := h2
  obtain ⟨n1, hn1⟩ : ∃ n1, n1 = l.length := ⟨_, rfl⟩
  obtain ⟨n2, hn2⟩ : ∃ n2, n2 = l'.length := ⟨_, rfl⟩
  obtain ⟨m1, hm1⟩ : ∃ m1, m1 = p.length := ⟨_, rfl⟩
  obtain ⟨m2, hm2⟩ : ∃ m2, m2 = p'.length := ⟨_, rfl⟩
  rw [← hn1, ← hn2, ← hm1, ← hm2]
  obtain ⟨W, hW⟩ : ∃ W, W = (((w.alloc (.cells #[.slice A1 n1 c1, .slice B1 m1 d1] 65)).alloc (.cells #[.slice A2 n2 c2, .slice B2 m2 d2] 65)).alloc (.cells #[.slice none 0 0, .slice none 0 0] 65)).drew := ⟨_, rfl⟩
  obtain ⟨hbW, k0, k1, k2, hsz⟩ := three_new w _ _ _ _ _ _ hW
  obtain ⟨x, hx⟩ : ∃ x : JS, x = ⟨w, W, A1, n1, c1, B1, m1, d1, A2, n2, c2, B2, m2, d2, l ++ l', p ++ p'⟩ := ⟨_, rfl⟩
  have hxw : x.w = w := by rw [hx]
  have hx0 : x.w0 = W := by rw [hx]
  have hxg : x.g = w.heap.size + 1 + 1 := by rw [hx]; rfl
  have hxu1 : x.u1 = .slice A1 n1 c1 := by rw [hx]; rfl
  have hxu2 : x.u2 = .slice A2 n2 c2 := by rw [hx]; rfl
  have hxv1 : x.v1 = .slice B1 m1 d1 := by rw [hx]; rfl
  have hxv2 : x.v2 = .slice B2 m2 d2 := by rw [hx]; rfl
  have hxL : x.L = l ++ l' := by rw [hx]
  have hxP : x.P = p ++ p' := by rw [hx]
  have c00 : ∀ w', x.G w' → w'.cell? ⟨w.heap.size, 0, none⟩ = some (.slice A1 n1 c1) := fun w' hG => (World.cell?_of_block (w := W) (by rw [hG.block _ (by rw [hx0, hsz]; simp only; omega) (by rw [hxg]; simp only; omega), hx0])).trans (cell_at k0 0 _ rfl)
  have c01 : ∀ w', x.G w' → w'.cell? ⟨w.heap.size, 1, none⟩ = some (.slice B1 m1 d1) := fun w' hG => (World.cell?_of_block (w := W) (by rw [hG.block _ (by rw [hx0, hsz]; simp only; omega) (by rw [hxg]; simp only; omega), hx0])).trans (cell_at k0 1 _ rfl)
  have c10 : ∀ w', x.G w' → w'.cell? ⟨w.heap.size + 1, 0, none⟩ = some (.slice A2 n2 c2) := fun w' hG => (World.cell?_of_block (w := W) (by rw [hG.block _ (by rw [hx0, hsz]; simp only; omega) (by rw [hxg]; simp only; omega), hx0])).trans (cell_at k1 0 _ rfl)
  have c11 : ∀ w', x.G w' → w'.cell? ⟨w.heap.size + 1, 1, none⟩ = some (.slice B2 m2 d2) := fun w' hG => (World.cell?_of_block (w := W) (by rw [hG.block _ (by rw [hx0, hsz]; simp only; omega) (by rw [hxg]; simp only; omega), hx0])).trans (cell_at k1 1 _ rfl)
  have e1 : ∀ w', x.G w' → Es w' A1 l ∧ Es w' A2 l' ∧ Ls pcP w' B1 p ∧ Ls pcP w' B2 p' := fun w' hG => by
    have hb := hG.below
    rw [hxw] at hb
    exact ⟨he1.below hb, he2.below hb, hl1.below hb, hl2.below hb⟩
  have HG0 := Lib.hid (show x.G W from ⟨by rw [hxw]; exact hbW, by rw [hx0]; exact Nat.le_refl _, fun i _ _ => by rw [hx0]⟩)
  have HN0 := Lib.hid (show ∀ i, x.N i W from fun i => by
    unfold JS.N
    split
    · show W.heap[x.g]? = _
      rw [hxg]
      exact k2
    · trivial)
  have HGL := Lib.hid (show x.g < x.w0.heap.size by rw [hxg, hx0, hsz]; omega)
  have HW := Lib.hid hW
  have HE := Lib.hid e1
  have HXG := Lib.hid hxg
  have HXW := Lib.hid hxw
  have HXL := Lib.hid hxL
  have HXP := Lib.hid hxP
  have H1 := Lib.hid hn1
  have H2 := Lib.hid hn2
  have H3 := Lib.hid hm1
  have H4 := Lib.hid hm2
  have C00 := Lib.hid c00
  have C01 := Lib.hid c01
  have C10 := Lib.hid c10
  have C11 := Lib.hid c11
  have U1 := Lib.hid hxu1
  have U2 := Lib.hid hxu2
  have V1 := Lib.hid hxv1
  have V2 := Lib.hid hxv2
  clear hW hbW k0 k1 k2 hsz hx hxw hx0 hxg hxu1 hxu2 hxv1 hxv2 hxL hxP c00 c01 c10 c11 e1 hn1 hn2 hm1 hm2 he1 he2 hl1 hl2
  go_enter Try.func54, Try.ntmps54
  go_wp2
  refine Dx.wp_region_stores x.D (x.ok HGL.out _) (by kernel_rfl) (by kernel_rfl) (by kernel_rfl) (by kernel_rfl) (Dx.none_of (z := 13) (by kernel_rfl) fun _ _ h => h) (by rw [← HW.out]; exact HG0.out) (by rw [← HW.out]; exact HN0.out) ?_ ?_
  · refine ⟨?_, ?_, ?_, ?_, ?_, ?_, ?_, ?_, ?_, ?_, ?_, ?_, ?_, ?_, trivial⟩
    · refine Dx.step_val fun a' w' hG hs hd hN => ?_
      have h1 : a'.eval (.tmp 2) = .pointer (some ⟨w.heap.size, 0, none⟩) := hs 2 (by kernel_rfl)
      refine ⟨.pointer (some ⟨w.heap.size, 0, none⟩), w', ?_, x.quiet (by omega) w', by show _ = Value.pointer (some ⟨x.w.heap.size, 0, none⟩); rw [HXW.out]⟩
      clear hd hs hN hG
      simp only [execOp, h1]
      go_simp
    · refine Dx.step_val fun a' w' hG hs hd hN => ?_
      have h1 : a'.eval (.tmp 5) = .pointer (some ⟨x.w.heap.size, 0, none⟩) := hd 0 (by decide)
      rw [HXW.out] at h1
      have hc := C00.out w' hG
      refine ⟨.slice A1 n1 c1, w', ?_, x.quiet (by omega) w', U1.out.symm⟩
      clear hd hs hN hG
      simp only [execOp, h1]
      go_simp
    · refine Dx.step_val fun a' w' hG hs hd hN => ?_
      have h1 : a'.eval (.tmp 3) = .pointer (some ⟨w.heap.size + 1, 0, none⟩) := hs 3 (by kernel_rfl)
      refine ⟨.pointer (some ⟨w.heap.size + 1, 0, none⟩), w', ?_, x.quiet (by omega) w', by show _ = Value.pointer (some ⟨x.w.heap.size + 1, 0, none⟩); rw [HXW.out]⟩
      clear hd hs hN hG
      simp only [execOp, h1]
      go_simp
    · refine Dx.step_val fun a' w' hG hs hd hN => ?_
      have h1 : a'.eval (.tmp 7) = .pointer (some ⟨x.w.heap.size + 1, 0, none⟩) := hd 2 (by decide)
      rw [HXW.out] at h1
      have hc := C10.out w' hG
      refine ⟨.slice A2 n2 c2, w', ?_, x.quiet (by omega) w', U2.out.symm⟩
      clear hd hs hN hG
      simp only [execOp, h1]
      go_simp
    · refine Dx.step_val fun a' w' hG hs hd hN => ?_
      have h1 : a'.eval (.tmp 6) = x.u1 := hd 1 (by decide)
      have h2 : a'.eval (.tmp 8) = x.u2 := hd 3 (by decide)
      rw [U1.out] at h1
      rw [U2.out] at h2
      have hG : x.G w' := hG
      refine ⟨.slice (some ⟨w'.heap.size, 0, none⟩) 2 2, w'.alloc (.cells #[.slice A1 n1 c1, .slice A2 n2 c2] 22), ?_, x.step (by omega) ((Below.refl _ _).alloc (Nat.le_refl _) _), ?_⟩
      · clear hd hs hN hG
        simp only [execOp, List.map_toArray, List.map_cons, List.map_nil, h1, h2]
        go_simp
      · show Duo x.w0 x.u1 x.u2 _ _ _
        rw [U1.out, U2.out]
        exact Duo.new _ _ _ hG.size
    · refine Dx.step_any fun a' w' hG hs hd hN => ?_
      obtain ⟨k, hk1, hk2, hk3⟩ : Duo x.w0 x.u1 x.u2 22 (a'.eval (.tmp 9)) w' := hd 4 (by decide)
      rw [U1.out, U2.out] at hk2
      obtain ⟨q1, q2, _, _⟩ := HE.out w' hG
      have hpl : pall [⟨A1, c1, l⟩, ⟨A2, c2, l'⟩] = x.L := by rw [HXL.out]; simp [pall]
      refine Dv.wp_call rfl Try.func68 (by kernel_rfl) (by kernel_rfl) (show _ = #[.slice (some ⟨k, 0, none⟩) 2 2] by simp [hk1]) ((concatE_any ⟨k, 0, none⟩ 2 2 [⟨A1, c1, l⟩, ⟨A2, c2, l'⟩] w' (lt_of_block hk2) rfl (cells2E hk2 q1 q2 H1.out.symm H2.out.symm) (by simp [pall]; omega) (by omega)).mono ?_)
      rintro e w'' ⟨v5, rfl, ho, hb⟩
      rw [hpl] at ho
      exact ⟨_, rfl, _, rfl, x.step (by omega) hb, ho.form⟩
    · refine Dx.step_val fun a' w' hG hs hd hN => ?_
      have h1 : a'.eval (.tmp 2) = .pointer (some ⟨w.heap.size, 0, none⟩) := hs 2 (by kernel_rfl)
      refine ⟨.pointer (some ⟨w.heap.size, 1, none⟩), w', ?_, x.quiet (by omega) w', by show _ = Value.pointer (some ⟨x.w.heap.size, 1, none⟩); rw [HXW.out]⟩
      clear hd hs hN hG
      simp only [execOp, h1]
      go_simp
    · refine Dx.step_val fun a' w' hG hs hd hN => ?_
      have h1 : a'.eval (.tmp 11) = .pointer (some ⟨x.w.heap.size, 1, none⟩) := hd 6 (by decide)
      rw [HXW.out] at h1
      have hc := C01.out w' hG
      refine ⟨.slice B1 m1 d1, w', ?_, x.quiet (by omega) w', V1.out.symm⟩
      clear hd hs hN hG
      simp only [execOp, h1]
      go_simp
    · refine Dx.step_val fun a' w' hG hs hd hN => ?_
      have h1 : a'.eval (.tmp 3) = .pointer (some ⟨w.heap.size + 1, 0, none⟩) := hs 3 (by kernel_rfl)
      refine ⟨.pointer (some ⟨w.heap.size + 1, 1, none⟩), w', ?_, x.quiet (by omega) w', by show _ = Value.pointer (some ⟨x.w.heap.size + 1, 1, none⟩); rw [HXW.out]⟩
      clear hd hs hN hG
      simp only [execOp, h1]
      go_simp
    · refine Dx.step_val fun a' w' hG hs hd hN => ?_
      have h1 : a'.eval (.tmp 13) = .pointer (some ⟨x.w.heap.size + 1, 1, none⟩) := hd 8 (by decide)
      rw [HXW.out] at h1
      have hc := C11.out w' hG
      refine ⟨.slice B2 m2 d2, w', ?_, x.quiet (by omega) w', V2.out.symm⟩
      clear hd hs hN hG
      simp only [execOp, h1]
      go_simp
    · refine Dx.step_val fun a' w' hG hs hd hN => ?_
      have h1 : a'.eval (.tmp 12) = x.v1 := hd 7 (by decide)
      have h2 : a'.eval (.tmp 14) = x.v2 := hd 9 (by decide)
      rw [V1.out] at h1
      rw [V2.out] at h2
      have hG : x.G w' := hG
      refine ⟨.slice (some ⟨w'.heap.size, 0, none⟩) 2 2, w'.alloc (.cells #[.slice B1 m1 d1, .slice B2 m2 d2] 63), ?_, x.step (by omega) ((Below.refl _ _).alloc (Nat.le_refl _) _), ?_⟩
      · clear hd hs hN hG
        simp only [execOp, List.map_toArray, List.map_cons, List.map_nil, h1, h2]
        go_simp
      · show Duo x.w0 x.v1 x.v2 _ _ _
        rw [V1.out, V2.out]
        exact Duo.new _ _ _ hG.size
    · refine Dx.step_any fun a' w' hG hs hd hN => ?_
      obtain ⟨k, hk1, hk2, hk3⟩ : Duo x.w0 x.v1 x.v2 63 (a'.eval (.tmp 15)) w' := hd 10 (by decide)
      rw [V1.out, V2.out] at hk2
      obtain ⟨_, _, q1, q2⟩ := HE.out w' hG
      have hpl : pallP [⟨B1, d1, p⟩, ⟨B2, d2, p'⟩] = x.P := by rw [HXP.out]; simp [pallP]
      refine Dv.wp_call rfl Try.func67 (by kernel_rfl) (by kernel_rfl) (show _ = #[.slice (some ⟨k, 0, none⟩) 2 2] by simp [hk1]) ((concatP_any ⟨k, 0, none⟩ 2 2 [⟨B1, d1, p⟩, ⟨B2, d2, p'⟩] w' (lt_of_block hk2) rfl (cells2 hk2 q1 q2 H3.out.symm H4.out.symm) (by simp [pallP]; omega) (by omega)).mono ?_)
      rintro e w'' ⟨v5, rfl, ho, hb⟩
      rw [hpl] at ho
      exact ⟨_, rfl, _, rfl, x.step (by omega) hb, ho.form⟩
    · refine Dx.step_val fun a' w' hG hs hd hN => ?_
      obtain ⟨A, c, h1, k1, k2⟩ : SlE w' (a'.eval (.tmp 10)) x.L := hd 5 (by decide)
      obtain ⟨B, d, h2, k3, k4⟩ : SlP w' (a'.eval (.tmp 16)) x.P := hd 11 (by decide)
      refine ⟨.agg #[.slice A x.L.length c, .slice B x.P.length d], w', ?_, x.quiet (by omega) w', ⟨A, c, B, d, rfl, k1, k3, k2, k4⟩⟩
      clear hd hs hN hG
      simp only [execOp, List.map_toArray, List.map_cons, List.map_nil, h1, h2]
      go_simp
    · refine Dx.step_skip fun a' w' hG hs hd hN => ?_
      have h1 : a'.eval (.tmp 4) = .pointer (some ⟨w.heap.size + 1 + 1, 0, none⟩) := hs 4 (by kernel_rfl)
      have hpt : Pt w' (a'.eval (.tmp 17)) x.L x.P := hd 12 (by decide)
      have hpt' := hpt
      obtain ⟨A, c, B, d, h2, k1, k2, k3, k4⟩ := hpt
      have hbx : w'.heap[x.g]? = some (.cells #[.slice none 0 0, .slice none 0 0] 65 (0, 0)) := hN
      have hof := Off.two hbx (.slice A x.L.length c) (.slice B x.P.length d)
      refine ⟨World.two w' x.g (.slice A x.L.length c) (.slice B x.P.length d), ?_, .inr ⟨rfl, hof, _, _, rfl⟩, ⟨A, _, c, B, _, d, ?_, set_two hbx _ _⟩⟩
      · rw [HXG.out] at hbx ⊢
        have hd0 := cell_at hbx 0 _ rfl
        have hd1 := cell_at hbx 1 _ rfl
        have hf0 := free_at hbx 0
        have hf1 := free_at hbx 1
        clear hd hs hN hG hbx hof hpt'
        simp only [execOp, h1, h2]
        go_simp
      · rw [h2] at hpt'
        exact hpt'.off hof
  · intro f wf hG hf
    have hG : x.G wf := hG
    obtain ⟨A, a, c, B, b, d, hpt, hbx⟩ : x.last wf := hf 13 (by decide)
    rw [HXL.out, HXP.out] at hpt
    rw [HXG.out] at hbx
    have hb := hG.below
    rw [HXW.out] at hb
    have HT := Lib.hid hbx
    have HP := Lib.hid hpt
    have HB := Lib.hid hb
    clear hf hG hpt hbx hb
    simp only [Dv.putAll, Nat.zero_add, Nat.reduceAdd]
    generalize f 0 = f0
    generalize f 1 = f1
    generalize f 2 = f2
    generalize f 3 = f3
    generalize f 4 = f4
    generalize f 5 = f5
    generalize f 6 = f6
    generalize f 7 = f7
    generalize f 8 = f8
    generalize f 9 = f9
    generalize f 10 = f10
    generalize f 11 = f11
    generalize f 12 = f12
    generalize f 13 = f13
    go_wp2
    refine bodyPost_ret (v := .agg #[.slice A a c, .slice B b d]) ?_ rfl ⟨_, rfl, HP.out, HB.out⟩
    have k0 := cell_at HT.out 0 _ rfl
    have k1 := cell_at HT.out 1 _ rfl
    simp [results, Try.results54, go_sem, k0, k1]

end Go.Proofs.Ytkooaechcbopnaa
