/-
  The contracts of tree.Items and tree.Right; conditions: the tree is valid and lies in memory, or is nil; few entries.
-/
import Derived.Test.YtkooaechcbopnaaTreePut
namespace Go.Proofs.Ytkooaechcbopnaa
open Go.RowKit Go.Sort
set_option linter.unusedVariables false

theorem ownP_ls {w : World} {base n c : Nat} {A : Option Addr} {p : List (Option Nat)} (h : OwnP w base (.slice A n c) p) : Ls pcP w A p := by
  obtain ⟨A', c', e, _, hl⟩ := h.form
  cases e
  exact hl
/-- Rows of unlike types lie apart. -/
theorem own_apart {w : World} {base base' : Nat} {v v' : Value} {l : List Ent} {p : List (Option Nat)} (h : Own w base v l) (k : OwnP w base' v' p) : ∀ g, v.ownBlock = some g → v'.ownBlock ≠ some g := by
  intro g h1 h2
  rcases h.2 with ⟨rfl, _⟩ | ⟨g1, cap, cur, rfl, _, hh, _⟩
  · simp [Value.ownBlock] at h1
  · rcases k.2 with ⟨rfl, _⟩ | ⟨g2, cap2, cur2, rfl, _, kk, _⟩
    · simp [Value.ownBlock] at h2
    · have e1 : g1 = g := by simpa [Value.ownBlock] using h1
      have e2 : g2 = g := by simpa [Value.ownBlock] using h2
      subst e1
      subst e2
      rw [hh] at kk
      simp at kk
/-- What tree.Items answers. -/
def ItPost (w : World) (l : List Ent) (r : Ending) (w' : World) : Prop := ∃ v, r = .returned v ∧ Own w' w.heap.size v l ∧ Below w.heap.size w w'

end Go.Proofs.Ytkooaechcbopnaa
