/-
  The contracts of pair.With and pair.Without: a new list in a row of its own; conditions: the slice can be read, its length is small.
-/
import Derived.Test.YtabgbbfiggnanaaPairWith
namespace Go.Proofs.Ytabgbbfiggnanaa
open Go.RowKit Go.Sort
set_option linter.unusedVariables false

/-- An entry in a block of its own. -/
def Box (w : World) (g : Nat) (x : Ent) : Prop := g < w.heap.size ∧ w.cell? ⟨g, 0, none⟩ = some (.string x.k) ∧ w.cell? ⟨g, 1, none⟩ = some (.string x.v)
theorem Box.new (w : World) (x : Ent) (t : TypeId) : Box (w.alloc (.cells #[.string x.k, .string x.v] t)) w.heap.size x :=
  ⟨by simp, World.cell?_alloc_mark w _ t _ 0, World.cell?_alloc_mark w _ t _ 1⟩
theorem Box.below {w w' : World} {g : Nat} {x : Ent} (h : Box w g x) (hb : Below w.heap.size w w') : Box w' g x :=
  ⟨Nat.lt_of_lt_of_le h.1 hb.size, (hb.cell h.1).trans h.2.1, (hb.cell h.1).trans h.2.2⟩

theorem box_es (w : World) (x : Ent) (t : TypeId) : Es (w.alloc (.cells #[.string x.k, .string x.v] t)) (some ⟨w.heap.size, 0, none⟩) [x] :=
  fun _ => ⟨_, rfl, by simp, new_row w #[.string x.k, .string x.v] t⟩
theorem parts_new (w : World) (ps : List Part) (cs : Array Value) (t : TypeId) (hcs : cs.toList = pcells ps) (hes : ∀ p ∈ ps, Es w p.A p.l) (j : Nat) (p : Part) (hp : ps[j]? = some p) :
    (w.alloc (.cells cs t)).cell? ((⟨w.heap.size, 0, none⟩ : Addr).add j) = some (.slice p.A p.l.length p.c) ∧ Es (w.alloc (.cells cs t)) p.A p.l :=
  ⟨new_row w cs t j _ (by rw [hcs, pcells, List.getElem?_map, hp]; rfl), (hes p (List.mem_of_getElem? hp)).below ((Below.refl _ _).alloc (Nat.le_refl _) _)⟩

/-- What pair.With answers. -/
def WithPost (w : World) (l : List Ent) (x : Ent) (e : Ending) (w' : World) : Prop :=
  ∃ (i : Nat) (f : Bool) (v : Value), e = .returned v ∧ Place l x.k i f ∧ Own w' w.heap.size v (wth l x i f) ∧ Below w.heap.size w w'

/-- What pair.Without answers. -/
def OutPost (w : World) (l : List Ent) (key : ByteArray) (e : Ending) (w' : World) : Prop :=
  ∃ (i : Nat) (f : Bool) (v : Value), e = .returned (.tuple #[v, .bool f]) ∧ Place l key i f ∧ Own w' w.heap.size v (wout l i f) ∧ Below w.heap.size w w'

end Go.Proofs.Ytabgbbfiggnanaa
