/-
  Words of a memory as a list, without memory: which there are, what Load, Store and CAS answer and leave. No conditions.
-/
import Derived.Test.YthalghjnnfohaaaProg
namespace Go.Proofs.Ythalghjnnfohaaa
set_option linter.unusedVariables false

/-- There is a word i among n. -/
def inW (n : Nat) (i : Int) : Prop := 0 ≤ i ∧ i < (n : Int)
instance (n : Nat) (i : Int) : Decidable (inW n i) := inferInstanceAs (Decidable (_ ∧ _))
/-- The error's number. -/
def errW (n : Nat) (i : Int) : Int := if inW n i then 0 else 1
/-- How many steps behind it. -/
def stepW (n : Nat) (i : Int) (s : Nat) : Nat := if inW n i then s + 1 else s
/-- What Load answers. -/
def getW {α : Type} (z : α) (l : List α) (i : Int) : α := if inW l.length i then l.getD i.toNat z else z
/-- What Store leaves. -/
def setW {α : Type} (l : List α) (i : Int) (x : α) : List α := if inW l.length i then l.set i.toNat x else l
/-- What CAS answers. -/
def swapW {α : Type} [DecidableEq α] (l : List α) (i : Int) (old : α) : Bool := decide (inW l.length i ∧ l[i.toNat]? = some old)
/-- What CAS leaves. -/
def casW {α : Type} [DecidableEq α] (l : List α) (i : Int) (old x : α) : List α := if swapW l i old then setW l i x else l
/-- How many changes behind it. -/
def changeW {α : Type} [DecidableEq α] (l : List α) (i : Int) (old : α) (c : Nat) : Nat := if swapW l i old then c + 1 else c

theorem stepW_le (n : Nat) (i : Int) (s : Nat) : stepW n i s ≤ s + 1 := by unfold stepW; split <;> omega
theorem changeW_le {α : Type} [DecidableEq α] (l : List α) (i : Int) (old : α) (c : Nat) : changeW l i old c ≤ c + 1 := by unfold changeW; split <;> omega
theorem setW_length {α : Type} (l : List α) (i : Int) (x : α) : (setW l i x).length = l.length := by unfold setW; split <;> simp
theorem casW_length {α : Type} [DecidableEq α] (l : List α) (i : Int) (old x : α) : (casW l i old x).length = l.length := by unfold casW; split <;> simp [setW_length]
theorem getW_map {α β : Type} (f : α → β) (z : α) (l : List α) (i : Int) : getW (f z) (l.map f) i = f (getW z l i) := by
  unfold getW
  rw [List.length_map]
  split
  · simp only [List.getD_eq_getElem?_getD, List.getElem?_map]
    cases l[i.toNat]? <;> rfl
  · rfl
theorem setW_map {α β : Type} (f : α → β) (l : List α) (i : Int) (x : α) : setW (l.map f) i (f x) = (setW l i x).map f := by
  unfold setW
  rw [List.length_map]
  split
  · rw [List.map_set]
  · rfl
theorem swapW_map {α β : Type} [DecidableEq α] [DecidableEq β] (f : α → β) (hf : ∀ a b, f a = f b → a = b) (l : List α) (i : Int) (old : α) : swapW (l.map f) i (f old) = swapW l i old := by
  unfold swapW
  rw [List.length_map]
  refine decide_eq_decide.2 ⟨fun ⟨h1, h2⟩ => ⟨h1, ?_⟩, fun ⟨h1, h2⟩ => ⟨h1, by rw [List.getElem?_map, h2]; rfl⟩⟩
  rw [List.getElem?_map] at h2
  cases hx : l[i.toNat]? with
  | none => rw [hx] at h2; cases h2
  | some y =>
    rw [hx] at h2
    rw [hf y old (Option.some.inj h2)]
theorem casW_map {α β : Type} [DecidableEq α] [DecidableEq β] (f : α → β) (hf : ∀ a b, f a = f b → a = b) (l : List α) (i : Int) (old x : α) : casW (l.map f) i (f old) (f x) = (casW l i old x).map f := by
  unfold casW
  rw [swapW_map f hf, setW_map]
  split <;> rfl
theorem changeW_map {α β : Type} [DecidableEq α] [DecidableEq β] (f : α → β) (hf : ∀ a b, f a = f b → a = b) (l : List α) (i : Int) (old : α) (c : Nat) : changeW (l.map f) i (f old) c = changeW l i old c := by
  unfold changeW
  rw [swapW_map f hf]

end Go.Proofs.Ythalghjnnfohaaa
