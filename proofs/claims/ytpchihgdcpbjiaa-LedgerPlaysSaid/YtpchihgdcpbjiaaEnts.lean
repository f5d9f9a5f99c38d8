/-
  Words for lists of entries (a struct of two strings): entries as cells, a slice that can be read as such a list; conditions stand at each.
-/
import Derived.Test.YtpchihgdcpbjiaaRows
import Derived.Test.YtpchihgdcpbjiaaBytes
import Derived.WalkKit
import Derived.WalkSpells
import Derived.WalkLawsBesides
import Derived.Lib.Hide
import Derived.Laws.CopyOwn
import Derived.Laws.IdiomStrings
import Derived.Deep.DeepAppendRoom
import Derived.Deep.QuietTactic
import Derived.BigQuiet
import Derived.OwnWalk
import Derived.Sort.Walk0
import Derived.Deep.MidRow
import Derived.Laws.AppendOwnNone
namespace Go.Proofs.Ytpchihgdcpbjiaa
open Go.RowKit Go.Sort
set_option linter.unusedVariables false

theorem below_drewN {B : Nat} {a w : World} (h : Below B a w) (n : Nat) : Below B a (w.drewN n) := ⟨h.os, h.tape, h.output, h.size, h.block⟩
theorem add_of_add (a : Addr) (i j : Nat) : (a.add i).add j = a.add (i + j) := by
  unfold Addr.add
  by_cases hi : i = 0 <;> by_cases hj : j = 0 <;> simp [hi, hj, Nat.add_assoc]

/-- An entry. -/
structure Ent where
  k : ByteArray
  v : ByteArray
deriving DecidableEq

/-- Entries as cells. -/
def ecells : List Ent → List Value
  | [] => []
  | e :: l => .string e.k :: .string e.v :: ecells l
theorem ecells_length (l : List Ent) : (ecells l).length = l.length * 2 := by
  induction l with
  | nil => rfl
  | cons e l ih => simp only [ecells, List.length_cons, ih]; omega
theorem ecells_append (l m : List Ent) : ecells (l ++ m) = ecells l ++ ecells m := by
  induction l with
  | nil => rfl
  | cons e l ih => simp [ecells, ih]
theorem ecells_one (l : List Ent) : ∀ u ∈ ecells l, u.oneCell' = true := by
  induction l with
  | nil => intro u hu; cases hu
  | cons e l ih =>
    intro u hu
    simp only [ecells, List.mem_cons] at hu
    rcases hu with rfl | rfl | hu
    · rfl
    · rfl
    · exact ih u hu
theorem ecells_at (l : List Ent) (i : Nat) : (ecells l)[i * 2]? = (l[i]?).map (fun e => .string e.k) ∧ (ecells l)[i * 2 + 1]? = (l[i]?).map (fun e => .string e.v) := by
  induction l generalizing i with
  | nil => simp [ecells]
  | cons e l ih =>
    cases i with
    | zero => simp [ecells]
    | succ i =>
      rw [show (i + 1) * 2 = i * 2 + 1 + 1 by omega]
      simp only [ecells, List.getElem?_cons_succ]
      exact ih i
theorem ecells_drop (l : List Ent) (i : Nat) : ecells (l.drop i) = (ecells l).drop (i * 2) := by
  induction l generalizing i with
  | nil => simp [ecells]
  | cons e l ih =>
    cases i with
    | zero => simp
    | succ i =>
      rw [show (i + 1) * 2 = i * 2 + 1 + 1 by omega]
      simp only [ecells, List.drop_succ_cons, ih]
theorem ecells_take (l : List Ent) (i : Nat) : ecells (l.take i) = (ecells l).take (i * 2) := by
  induction l generalizing i with
  | nil => simp [ecells]
  | cons e l ih =>
    cases i with
    | zero => simp [ecells]
    | succ i =>
      rw [show (i + 1) * 2 = i * 2 + 1 + 1 by omega]
      simp only [ecells, List.take_succ_cons, ih]

/-- The slice at A reads as the entries l. -/
def Es (w : World) (A : Option Addr) (l : List Ent) : Prop :=
  0 < l.length → ∃ ad, A = some ad ∧ ad.block < w.heap.size ∧ ∀ j u, (ecells l)[j]? = some u → w.cell? (ad.add j) = some u

theorem Es.nil (w : World) (A : Option Addr) : Es w A [] := fun h => absurd h (by simp)
theorem Es.below {w w' : World} {A : Option Addr} {l : List Ent} (h : Es w A l) (hb : Below w.heap.size w w') : Es w' A l := fun h0 => by
  obtain ⟨ad, e, hlt, hc⟩ := h h0
  exact ⟨ad, e, Nat.lt_of_lt_of_le hlt hb.size, fun j u hu => (hb.cell (by rw [block_of_add]; exact hlt)).trans (hc j u hu)⟩
theorem Es.at_ {w : World} {A : Option Addr} {l : List Ent} (h : Es w A l) {i : Nat} (hi : i < l.length) :
    ∃ ad e, A = some ad ∧ l[i]? = some e ∧ ad.block < w.heap.size ∧ w.cell? (ad.add (i * 2)) = some (.string e.k) ∧ w.cell? ⟨(ad.add (i * 2)).block, (ad.add (i * 2)).off + 1, none⟩ = some (.string e.v) := by
  obtain ⟨ad, e, hlt, hc⟩ := h (by omega)
  have he := ecells_at l i
  rw [List.getElem?_eq_getElem hi] at he
  have h2 := hc _ _ he.2
  rw [← add_of_add] at h2
  exact ⟨ad, _, e, List.getElem?_eq_getElem hi, hlt, hc _ _ he.1, h2⟩
theorem Es.take {w : World} {A : Option Addr} {l : List Ent} (h : Es w A l) (i : Nat) : Es w A (l.take i) := fun h0 => by
  obtain ⟨ad, e, hlt, hc⟩ := h (by rw [List.length_take] at h0; omega)
  refine ⟨ad, e, hlt, fun j u hu => hc j u ?_⟩
  rw [ecells_take] at hu
  have hj := (List.getElem?_eq_some_iff.1 hu).1
  rw [List.length_take] at hj
  rwa [List.getElem?_take_of_lt (by omega)] at hu
theorem Es.drop {w : World} {ad : Addr} {l : List Ent} (h : Es w (some ad) l) (i : Nat) : Es w (some (ad.add (i * 2))) (l.drop i) := fun h0 => by
  obtain ⟨ad', e, hlt, hc⟩ := h (by rw [List.length_drop] at h0; omega)
  cases e
  refine ⟨_, rfl, by rw [block_of_add]; exact hlt, fun j u hu => ?_⟩
  rw [ecells_drop, List.getElem?_drop] at hu
  rw [add_of_add]
  exact hc _ u hu

end Go.Proofs.Ytpchihgdcpbjiaa
