/-
  The contracts of pair.Find, of pair.cut and of the reference's Find: a key's place; conditions: the slice can be read.
-/
import Derived.Test.YtabgbbfiggnanaaPairPure
namespace Go.Proofs.Ytabgbbfiggnanaa
open Go.RowKit Go.Sort
set_option linter.unusedVariables false

/-- Half-way of a search. -/
structure Mid (l : List Ent) (key : ByteArray) (lo hi : Nat) : Prop where
  under : Sorted l → ∀ j e, j < lo → l[j]? = some e → kl e.k key
  above : Sorted l → ∀ j e, hi ≤ j → l[j]? = some e → ¬ kl e.k key
theorem Mid.up {l : List Ent} {key : ByteArray} {lo hi m : Nat} {e : Ent} (h : Mid l key lo hi) (he : l[m]? = some e) (hk : kl e.k key) : Mid l key (m + 1) hi where
  under := fun hs j x hj hx => by
    rcases Nat.lt_or_ge j m with hjm | hjm
    · exact kl_trans (sorted_lt hs hjm hx he) hk
    · have : j = m := by omega
      subst this
      rw [he] at hx
      cases hx
      exact hk
  above := h.above
theorem Mid.down {l : List Ent} {key : ByteArray} {lo hi m : Nat} {e : Ent} (h : Mid l key lo hi) (he : l[m]? = some e) (hk : ¬ kl e.k key) : Mid l key lo m where
  under := h.under
  above := fun hs j x hj hx => by
    rcases Nat.lt_or_ge m j with hjm | hjm
    · exact fun hx2 => hk (kl_trans (sorted_lt hs hjm he hx) hx2)
    · have : j = m := by omega
      subst this
      rw [he] at hx
      cases hx
      exact hk
theorem Mid.place {l : List Ent} {key : ByteArray} {i : Nat} (h : Mid l key i i) (hi : i ≤ l.length) {f : Bool} (hf : f = true ↔ ∃ e, l[i]? = some e ∧ e.k = key) : Place l key i f := ⟨hi, hf, h.under, h.above⟩

/-- What a search answers. -/
def FindPost (w : World) (l : List Ent) (key : ByteArray) (e : Ending) (w' : World) : Prop :=
  ∃ (i : Nat) (f : Bool), e = .returned (.tuple #[.int .i64 i, .bool f]) ∧ Place l key i f ∧ Below w.heap.size w w'

/-- Half-way of the reference's search. -/
structure Run (l : List Ent) (key : ByteArray) (n i : Nat) : Prop where
  le : n ≤ i
  under : ∀ j e, j < n → l[j]? = some e → kl e.k key
  above : ∀ j e, n ≤ j → j < i → l[j]? = some e → kl key e.k

end Go.Proofs.Ytabgbbfiggnanaa
