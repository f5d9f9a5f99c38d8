/-
  The contract of parts.join, whatever order is drawn; conditions: the parts can be read, few elements.
-/
import Derived.Test.YtcoaloignmkemaaTreeRepl
import Derived.Test.YtcoaloignmkemaaDrawnX
namespace Go.Proofs.Ytcoaloignmkemaa
open Go.RowKit Go.Sort
set_option linter.unusedVariables false
set_option linter.unusedSimpArgs false

/-- What stands at parts.join. -/
structure JS where
  w : World
  w0 : World
  A1 : Option Addr
  n1 : Nat
  c1 : Nat
  B1 : Option Addr
  m1 : Nat
  d1 : Nat
  A2 : Option Addr
  n2 : Nat
  c2 : Nat
  B2 : Option Addr
  m2 : Nat
  d2 : Nat
  L : List Ent
  P : List (Option Nat)
def JS.g (x : JS) : Nat := x.w.heap.size + 1 + 1
def JS.u1 (x : JS) : Value := .slice x.A1 x.n1 x.c1
def JS.u2 (x : JS) : Value := .slice x.A2 x.n2 x.c2
def JS.v1 (x : JS) : Value := .slice x.B1 x.m1 x.d1
def JS.v2 (x : JS) : Value := .slice x.B2 x.m2 x.d2
def Duo (w0 : World) (u v : Value) (t : TypeId) (r : Value) (w : World) : Prop := ∃ k, r = .slice (some ⟨k, 0, none⟩) 2 2 ∧ w.heap[k]? = some (.cells #[u, v] t (0, 0)) ∧ w0.heap.size ≤ k
theorem Duo.below {w0 : World} {u v r : Value} {t : TypeId} {w w' : World} (h : Duo w0 u v t r w) (hb : Below w.heap.size w w') : Duo w0 u v t r w' := by
  obtain ⟨k, e, hk, hge⟩ := h
  exact ⟨k, e, (hb.block k (lt_of_block hk)).trans hk, hge⟩
theorem Duo.off {w0 : World} {u v r : Value} {t : TypeId} {w w' : World} {g : Nat} (h : Duo w0 u v t r w) (hb : Off g w w') (hg : g < w0.heap.size) : Duo w0 u v t r w' := by
  obtain ⟨k, e, hk, hge⟩ := h
  exact ⟨k, e, (hb.block k (lt_of_block hk) (by omega)).trans hk, hge⟩
theorem Duo.new {w0 w : World} (u v : Value) (t : TypeId) (hs : w0.heap.size ≤ w.heap.size) : Duo w0 u v t (.slice (some ⟨w.heap.size, 0, none⟩) 2 2) (w.alloc (.cells #[u, v] t)) := ⟨_, rfl, heap_alloc_new w _, hs⟩
def SlE (w : World) (v : Value) (l : List Ent) : Prop := ∃ A c, v = .slice A l.length c ∧ l.length ≤ c ∧ Es w A l
def SlP (w : World) (v : Value) (l : List (Option Nat)) : Prop := ∃ A c, v = .slice A l.length c ∧ l.length ≤ c ∧ Ls pcP w A l
def JS.last (x : JS) (w : World) : Prop := ∃ A a c B b d, Pt w (.agg #[.slice A a c, .slice B b d]) x.L x.P ∧ w.heap[x.g]? = some (.cells #[.slice A a c, .slice B b d] 69 (0, 0))
def JS.V (x : JS) : Nat → Value → World → Prop
  | 0, v, _ => v = .pointer (some ⟨x.w.heap.size, 0, none⟩)
  | 1, v, _ => v = x.u1
  | 2, v, _ => v = .pointer (some ⟨x.w.heap.size + 1, 0, none⟩)
  | 3, v, _ => v = x.u2
  | 4, v, w => Duo x.w0 x.u1 x.u2 22 v w
  | 5, v, w => SlE w v x.L
  | 6, v, _ => v = .pointer (some ⟨x.w.heap.size, 1, none⟩)
  | 7, v, _ => v = x.v1
  | 8, v, _ => v = .pointer (some ⟨x.w.heap.size + 1, 1, none⟩)
  | 9, v, _ => v = x.v2
  | 10, v, w => Duo x.w0 x.v1 x.v2 67 v w
  | 11, v, w => SlP w v x.P
  | 12, v, w => Pt w v x.L x.P
  | 13, _, w => x.last w
  | _, _, _ => True
structure JS.G (x : JS) (w : World) : Prop where
  below : Below x.w.heap.size x.w w
  size : x.w0.heap.size ≤ w.heap.size
  block : ∀ i, i < x.w0.heap.size → i ≠ x.g → w.heap[i]? = x.w0.heap[i]?
def JS.Bx (x : JS) (w : World) : Prop := w.heap[x.g]? = some (.cells #[.slice none 0 0, .slice none 0 0] 69 (0, 0))
def JS.N (x : JS) : Nat → World → Prop
  | 13, w => x.Bx w
  | _, _ => True
def JS.S (x : JS) (i : Nat) (w w' : World) : Prop := (i ≠ 13 ∧ Below w.heap.size w w') ∨ (i = 13 ∧ Off x.g w w' ∧ ∃ u v, w' = World.two w x.g u v)
def JS.D (x : JS) : Dx.Words := ⟨x.G, x.N, x.V, x.S⟩
theorem JS.quiet (x : JS) {i : Nat} (hi : i ≠ 13) (w : World) : x.S i w w := .inl ⟨hi, Below.refl _ _⟩
theorem JS.step (x : JS) {i : Nat} (hi : i ≠ 13) {w w' : World} (h : Below w.heap.size w w') : x.S i w w' := .inl ⟨hi, h⟩
theorem JS.ok (x : JS) (hg : x.g < x.w0.heap.size) (l : List Oper) : x.D.Ok l := by
  refine ⟨fun i w w' hG hS => ?_, fun i j w w' hij hG hN hS => ?_, fun i j u w w' hij hdd hG hV hS => ?_⟩
  · have hG : x.G w := hG
    rcases hS with ⟨_, hb⟩ | ⟨_, ho, u, v, rfl⟩
    · exact ⟨bthen hG.below hb, Nat.le_trans hG.size hb.size, fun k hk hne => (hb.block k (Nat.lt_of_lt_of_le hk hG.size)).trans (hG.block k hk hne)⟩
    · exact ⟨two_below hG.below (by unfold JS.g; omega) u v, by rw [two_size]; exact hG.size, fun k hk hne => (two_other w x.g u v k hne).trans (hG.block k hk hne)⟩
  · have hG : x.G w := hG
    by_cases h13 : i = 13
    · subst h13
      rcases hS with ⟨_, hb⟩ | ⟨hj, _⟩
      · exact (hb.block _ (Nat.lt_of_lt_of_le hg hG.size)).trans hN
      · exact absurd hj.symm hij
    · show x.N i w'
      unfold JS.N
      split
      · exact absurd rfl h13
      · trivial
  · have hG : x.G w := hG
    have hV : x.V i u w := hV
    show x.V i u w'
    rcases hS with ⟨_, hb⟩ | ⟨hj, ho, _⟩
    · match i, hV with
      | 0, hV => exact hV
      | 1, hV => exact hV
      | 2, hV => exact hV
      | 3, hV => exact hV
      | 4, hV => exact Duo.below hV hb
      | 5, ⟨A, c, h1, h2, h3⟩ => exact ⟨A, c, h1, h2, h3.below hb⟩
      | 6, hV => exact hV
      | 7, hV => exact hV
      | 8, hV => exact hV
      | 9, hV => exact hV
      | 10, hV => exact Duo.below hV hb
      | 11, ⟨A, c, h1, h2, h3⟩ => exact ⟨A, c, h1, h2, h3.below hb⟩
      | 12, hV => exact Pt.below hV hb
      | 13, ⟨A, a, c, B, b, d, h1, h2⟩ => exact ⟨A, a, c, B, b, d, h1.below hb, (hb.block _ (Nat.lt_of_lt_of_le hg hG.size)).trans h2⟩
      | i + 14, _ => trivial
    · have h13 : i ≠ 13 := fun e => hij (e.trans hj.symm)
      match i, h13, hV with
      | 0, _, hV => exact hV
      | 1, _, hV => exact hV
      | 2, _, hV => exact hV
      | 3, _, hV => exact hV
      | 4, _, hV => exact Duo.off hV ho hg
      | 5, _, ⟨A, c, h1, h2, h3⟩ => exact ⟨A, c, h1, h2, h3.off ho⟩
      | 6, _, hV => exact hV
      | 7, _, hV => exact hV
      | 8, _, hV => exact hV
      | 9, _, hV => exact hV
      | 10, _, hV => exact Duo.off hV ho hg
      | 11, _, ⟨A, c, h1, h2, h3⟩ => exact ⟨A, c, h1, h2, h3.off ho⟩
      | 12, _, hV => exact Pt.off hV ho
      | i + 14, _, _ => trivial
theorem cells2 {w : World} {g : Nat} {A B : Option Addr} {c d a b : Nat} {l m : List (Option Nat)} {t : TypeId} (h : w.heap[g]? = some (.cells #[.slice A a c, .slice B b d] t (0, 0))) (hl : Ls pcP w A l) (hm : Ls pcP w B m) (ha : l.length = a) (hb : m.length = b) :
    ∀ j p, ([⟨A, c, l⟩, ⟨B, d, m⟩] : List PartP)[j]? = some p → w.cell? ((⟨g, 0, none⟩ : Addr).add j) = some (.slice p.A p.l.length p.c) ∧ Ls pcP w p.A p.l := by
  subst ha hb
  intro j p hp
  match j, hp with
  | 0, hp =>
    cases hp
    exact ⟨cell_at h 0 _ rfl, hl⟩
  | 1, hp =>
    cases hp
    exact ⟨cell_at h 1 _ rfl, hm⟩
theorem cells2E {w : World} {g : Nat} {A B : Option Addr} {c d a b : Nat} {l m : List Ent} {t : TypeId} (h : w.heap[g]? = some (.cells #[.slice A a c, .slice B b d] t (0, 0))) (hl : Es w A l) (hm : Es w B m) (ha : l.length = a) (hb : m.length = b) :
    ∀ j p, ([⟨A, c, l⟩, ⟨B, d, m⟩] : List Part)[j]? = some p → w.cell? ((⟨g, 0, none⟩ : Addr).add j) = some (.slice p.A p.l.length p.c) ∧ Es w p.A p.l := by
  subst ha hb
  intro j p hp
  match j, hp with
  | 0, hp =>
    cases hp
    exact ⟨cell_at h 0 _ rfl, hl⟩
  | 1, hp =>
    cases hp
    exact ⟨cell_at h 1 _ rfl, hm⟩

end Go.Proofs.Ytcoaloignmkemaa
