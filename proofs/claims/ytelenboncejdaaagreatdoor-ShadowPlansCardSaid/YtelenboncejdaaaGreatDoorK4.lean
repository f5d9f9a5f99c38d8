/-
  Several texts in one: Ents, PairPure, PairRise, PairFind, PairWith, PairPut, PairSmall, PairOpen, PairRoom, PairRef, Ls, Strs. Each says what it proves, and under which conditions.
-/
import Derived.Test.YtelenboncejdaaaGreatDoorK3
import Derived.Test.YtelenboncejdaaaGreatDoorRows
import Derived.WalkKit
import Derived.WalkSpells
import Derived.WalkLawsBesides
import Derived.Lib.Hide
import Derived.Laws.CopyOwn
import Derived.Laws.IdiomStrings
import Derived.Deep.DeepAppendRoom
import Derived.Deep.QuietTactic
import Derived.BigQuiet
import Derived.OwnWalk
import Derived.Sort.Walk0
import Derived.Deep.MidRow
import Derived.Laws.AppendOwnNone
import Derived.Deep.SlicePairs
import Derived.SizedLaws
import Derived.ProofKit
import Derived.Lib.SmallJoins
import Derived.Lib.Strings

/-
  Words for lists of entries (a struct of two strings): entries as cells, a slice that can be read as such a list; conditions stand at each.
-/
namespace Go.Proofs.YtelenboncejdaaaGreatDoor
open Go.RowKit Go.Sort
set_option linter.unusedVariables false

theorem below_drewN {B : Nat} {a w : World} (h : Below B a w) (n : Nat) : Below B a (w.drewN n) := ⟨h.os, h.tape, h.output, h.size, h.block⟩
theorem add_of_add (a : Addr) (i j : Nat) : (a.add i).add j = a.add (i + j) := by
  unfold Addr.add
  by_cases hi : i = 0 <;> by_cases hj : j = 0 <;> simp [hi, hj, Nat.add_assoc]

/-- An entry. -/
structure Ent where
  k : ByteArray
  v : ByteArray
deriving DecidableEq

/-- Entries as cells. -/
def ecells : List Ent → List Value
  | [] => []
  | e :: l => .string e.k :: .string e.v :: ecells l
theorem ecells_length (l : List Ent) : (ecells l).length = l.length * 2 := by
  induction l with
  | nil => rfl
  | cons e l ih => simp only [ecells, List.length_cons, ih]; omega
theorem ecells_append (l m : List Ent) : ecells (l ++ m) = ecells l ++ ecells m := by
  induction l with
  | nil => rfl
  | cons e l ih => simp [ecells, ih]
theorem ecells_one (l : List Ent) : ∀ u ∈ ecells l, u.oneCell' = true := by
  induction l with
  | nil => intro u hu; cases hu
  | cons e l ih =>
    intro u hu
    simp only [ecells, List.mem_cons] at hu
    rcases hu with rfl | rfl | hu
    · rfl
    · rfl
    · exact ih u hu
theorem ecells_at (l : List Ent) (i : Nat) : (ecells l)[i * 2]? = (l[i]?).map (fun e => .string e.k) ∧ (ecells l)[i * 2 + 1]? = (l[i]?).map (fun e => .string e.v) := by
  induction l generalizing i with
  | nil => simp [ecells]
  | cons e l ih =>
    cases i with
    | zero => simp [ecells]
    | succ i =>
      rw [show (i + 1) * 2 = i * 2 + 1 + 1 by omega]
      simp only [ecells, List.getElem?_cons_succ]
      exact ih i
theorem ecells_drop (l : List Ent) (i : Nat) : ecells (l.drop i) = (ecells l).drop (i * 2) := by
  induction l generalizing i with
  | nil => simp [ecells]
  | cons e l ih =>
    cases i with
    | zero => simp
    | succ i =>
      rw [show (i + 1) * 2 = i * 2 + 1 + 1 by omega]
      simp only [ecells, List.drop_succ_cons, ih]
theorem ecells_take (l : List Ent) (i : Nat) : ecells (l.take i) = (ecells l).take (i * 2) := by
  induction l generalizing i with
  | nil => simp [ecells]
  | cons e l ih =>
    cases i with
    | zero => simp [ecells]
    | succ i =>
      rw [show (i + 1) * 2 = i * 2 + 1 + 1 by omega]
      simp only [ecells, List.take_succ_cons, ih]

/-- The slice at A reads as the entries l. -/
def Es (w : World) (A : Option Addr) (l : List Ent) : Prop :=
  0 < l.length → ∃ ad, A = some ad ∧ ad.block < w.heap.size ∧ ∀ j u, (ecells l)[j]? = some u → w.cell? (ad.add j) = some u

theorem Es.nil (w : World) (A : Option Addr) : Es w A [] := fun h => absurd h (by simp)
theorem Es.below {w w' : World} {A : Option Addr} {l : List Ent} (h : Es w A l) (hb : Below w.heap.size w w') : Es w' A l := fun h0 => by
  obtain ⟨ad, e, hlt, hc⟩ := h h0
  exact ⟨ad, e, Nat.lt_of_lt_of_le hlt hb.size, fun j u hu => (hb.cell (by rw [block_of_add]; exact hlt)).trans (hc j u hu)⟩
theorem Es.at_ {w : World} {A : Option Addr} {l : List Ent} (h : Es w A l) {i : Nat} (hi : i < l.length) :
    ∃ ad e, A = some ad ∧ l[i]? = some e ∧ ad.block < w.heap.size ∧ w.cell? (ad.add (i * 2)) = some (.string e.k) ∧ w.cell? ⟨(ad.add (i * 2)).block, (ad.add (i * 2)).off + 1, none⟩ = some (.string e.v) := by
  obtain ⟨ad, e, hlt, hc⟩ := h (by omega)
  have he := ecells_at l i
  rw [List.getElem?_eq_getElem hi] at he
  have h2 := hc _ _ he.2
  rw [← add_of_add] at h2
  exact ⟨ad, _, e, List.getElem?_eq_getElem hi, hlt, hc _ _ he.1, h2⟩
theorem Es.take {w : World} {A : Option Addr} {l : List Ent} (h : Es w A l) (i : Nat) : Es w A (l.take i) := fun h0 => by
  obtain ⟨ad, e, hlt, hc⟩ := h (by rw [List.length_take] at h0; omega)
  refine ⟨ad, e, hlt, fun j u hu => hc j u ?_⟩
  rw [ecells_take] at hu
  have hj := (List.getElem?_eq_some_iff.1 hu).1
  rw [List.length_take] at hj
  rwa [List.getElem?_take_of_lt (by omega)] at hu
theorem Es.drop {w : World} {ad : Addr} {l : List Ent} (h : Es w (some ad) l) (i : Nat) : Es w (some (ad.add (i * 2))) (l.drop i) := fun h0 => by
  obtain ⟨ad', e, hlt, hc⟩ := h (by rw [List.length_drop] at h0; omega)
  cases e
  refine ⟨_, rfl, by rw [block_of_add]; exact hlt, fun j u hu => ?_⟩
  rw [ecells_drop, List.getElem?_drop] at hu
  rw [add_of_add]
  exact hc _ u hu

end Go.Proofs.YtelenboncejdaaaGreatDoor

/-
  Sorted lists of entries, without a program: the order of keys, the list with an entry, the list without a key, the place of a key; no condition beyond those stated.
-/
namespace Go.Proofs.YtelenboncejdaaaGreatDoor
open Go.RowKit Go.Sort
set_option linter.unusedVariables false

/-- The order of keys: bytewise. -/
def kl (a b : ByteArray) : Prop := a.data.toList < b.data.toList
instance (a b : ByteArray) : Decidable (kl a b) := inferInstanceAs (Decidable (a.data.toList < b.data.toList))
theorem kl_irrefl (a : ByteArray) : ¬ kl a a := List.lt_irrefl _
theorem kl_trans {a b c : ByteArray} (h : kl a b) (k : kl b c) : kl a c := List.lt_trans h k
theorem kl_asymm {a b : ByteArray} (h : kl a b) : ¬ kl b a := fun k => kl_irrefl a (kl_trans h k)
theorem kl_tri {a b : ByteArray} (h : ¬ kl a b) (k : ¬ kl b a) : a = b := by
  have e := List.le_antisymm (List.not_lt.1 k) (List.not_lt.1 h)
  cases a; cases b
  simp only at e
  congr 1
  exact Array.toList_inj.1 e
theorem less_eq (a b : ByteArray) : Op.bytesLess a.toList b.toList = decide (kl a b) := by
  rw [bytesLess_eq, Lib.toList_data, Lib.toList_data]
  rfl
theorem same_eq (a b : ByteArray) : (a.toList == b.toList) = decide (a = b) := by
  rw [Lib.toList_data, Lib.toList_data]
  by_cases h : a = b
  · subst h; simp
  · have : a.data.toList ≠ b.data.toList := by
      intro e
      apply h
      cases a; cases b
      congr 1
      exact Array.toList_inj.1 e
    have h2 : ¬ a.data = b.data := fun e => this (by rw [e])
    simp [h, h2]

/-- Keys rise. -/
def Sorted (l : List Ent) : Prop := l.Pairwise fun a b => kl a.k b.k
instance (l : List Ent) : Decidable (Sorted l) := inferInstanceAs (Decidable (l.Pairwise _))

theorem sorted_lt {l : List Ent} (h : Sorted l) {i j : Nat} {a b : Ent} (hij : i < j) (ha : l[i]? = some a) (hb : l[j]? = some b) : kl a.k b.k := by
  obtain ⟨h1, rfl⟩ := List.getElem?_eq_some_iff.1 ha
  obtain ⟨h2, rfl⟩ := List.getElem?_eq_some_iff.1 hb
  exact List.pairwise_iff_getElem.1 h i j h1 h2 hij
theorem sorted_of_adj {l : List Ent} (h : ∀ (j : Nat) (a b : Ent), l[j]? = some a → l[j + 1]? = some b → kl a.k b.k) : Sorted l := by
  unfold Sorted
  induction l with
  | nil => exact List.Pairwise.nil
  | cons x l ih =>
    have ih' := ih (fun j a b ha hb => h (j + 1) a b (by simpa using ha) (by simpa using hb))
    refine List.pairwise_cons.2 ⟨fun y hy => ?_, ih'⟩
    cases l with
    | nil => cases hy
    | cons z l =>
      have hz : kl x.k z.k := h 0 x z rfl rfl
      rcases List.mem_cons.1 hy with rfl | hy
      · exact hz
      · exact kl_trans hz ((List.pairwise_cons.1 ih').1 y hy)

/-- What a search for a key answers. -/
structure Place (l : List Ent) (key : ByteArray) (i : Nat) (f : Bool) : Prop where
  le : i ≤ l.length
  found : f = true ↔ ∃ e, l[i]? = some e ∧ e.k = key
  under : Sorted l → ∀ j e, j < i → l[j]? = some e → kl e.k key
  above : Sorted l → ∀ j e, i ≤ j → l[j]? = some e → ¬ kl e.k key

theorem Place.unique {l : List Ent} {key : ByteArray} {i i' : Nat} {f f' : Bool} (hs : Sorted l) (h : Place l key i f) (h' : Place l key i' f') : i = i' ∧ f = f' := by
  have hi : i = i' := by
    rcases Nat.lt_trichotomy i i' with hlt | he | hgt
    · have hl : i < l.length := by have := h'.le; omega
      exact absurd (h'.under hs i _ hlt (List.getElem?_eq_getElem hl)) (h.above hs i _ (Nat.le_refl _) (List.getElem?_eq_getElem hl))
    · exact he
    · have hl : i' < l.length := by have := h.le; omega
      exact absurd (h.under hs i' _ hgt (List.getElem?_eq_getElem hl)) (h'.above hs i' _ (Nat.le_refl _) (List.getElem?_eq_getElem hl))
  subst hi
  refine ⟨rfl, ?_⟩
  have := h.found.trans h'.found.symm
  cases f <;> cases f' <;> simp_all

/-- In a sorted list behind the place stand only greater keys. -/
theorem Place.over {l : List Ent} {key : ByteArray} {i : Nat} {f : Bool} (h : Place l key i f) (hs : Sorted l) {j : Nat} {e : Ent} (hj : (if f then i + 1 else i) ≤ j) (he : l[j]? = some e) : kl key e.k := by
  have hij : i ≤ j := by cases f <;> simp at hj <;> omega
  have h1 := h.above hs j e hij he
  rcases Decidable.em (kl key e.k) with hk | hk
  · exact hk
  · have hkey := kl_tri h1 hk
    rcases Nat.lt_or_ge i j with hlt | hge
    · have hl : i < l.length := by have := (List.getElem?_eq_some_iff.1 he).1; omega
      have h2 := sorted_lt hs hlt (List.getElem?_eq_getElem hl) he
      rw [hkey] at h2
      exact absurd h2 (h.above hs i _ (Nat.le_refl _) (List.getElem?_eq_getElem hl))
    · have : j = i := by omega
      subst this
      have hf : f = true := h.found.2 ⟨e, he, hkey⟩
      subst hf
      simp only [if_true] at hj
      omega
theorem Place.mem {l : List Ent} {key : ByteArray} {i : Nat} {f : Bool} (h : Place l key i f) (hs : Sorted l) : f = true ↔ ∃ e ∈ l, e.k = key := by
  refine h.found.trans ⟨fun ⟨e, he, hk⟩ => ⟨e, List.mem_of_getElem? he, hk⟩, fun ⟨e, he, hk⟩ => ?_⟩
  obtain ⟨j, hj⟩ := List.getElem?_of_mem he
  rcases Nat.lt_or_ge j i with hlt | hge
  · have := h.under hs j e hlt hj
    rw [hk] at this
    exact absurd this (kl_irrefl _)
  · rcases Nat.lt_or_ge i j with hlt2 | hge2
    · have hl : i < l.length := by have := (List.getElem?_eq_some_iff.1 hj).1; omega
      have h2 := sorted_lt hs hlt2 (List.getElem?_eq_getElem hl) hj
      rw [hk] at h2
      exact absurd h2 (h.above hs i _ (Nat.le_refl _) (List.getElem?_eq_getElem hl))
    · have : j = i := by omega
      subst this
      exact ⟨e, hj, hk⟩

def lows (l : List Ent) (key : ByteArray) : List Ent := l.filter fun e => decide (kl e.k key)
def highs (l : List Ent) (key : ByteArray) : List Ent := l.filter fun e => decide (kl key e.k)
/-- A list with an entry. -/
def put (l : List Ent) (e : Ent) : List Ent := lows l e.k ++ e :: highs l e.k
/-- A list without a key. -/
def del (l : List Ent) (key : ByteArray) : List Ent := lows l key ++ highs l key

theorem filter_all {p : Ent → Bool} {l : List Ent} (h : ∀ e ∈ l, p e = true) : l.filter p = l := List.filter_eq_self.2 h
theorem filter_none {p : Ent → Bool} {l : List Ent} (h : ∀ e ∈ l, p e = false) : l.filter p = [] := List.filter_eq_nil_iff.2 (fun e he => by simp [h e he])

theorem Place.split {l : List Ent} {key : ByteArray} {i : Nat} {f : Bool} (h : Place l key i f) (hs : Sorted l) : l.take i = lows l key ∧ l.drop (if f then i + 1 else i) = highs l key := by
  have hlow : ∀ e ∈ l.take i, kl e.k key := fun e he => by
    obtain ⟨j, hj⟩ := List.getElem?_of_mem he
    have hji : j < i := by
      have := (List.getElem?_eq_some_iff.1 hj).1
      rw [List.length_take] at this
      omega
    rw [List.getElem?_take_of_lt hji] at hj
    exact h.under hs j e hji hj
  have hhigh : ∀ e ∈ l.drop (if f then i + 1 else i), kl key e.k := fun e he => by
    obtain ⟨j, hj⟩ := List.getElem?_of_mem he
    rw [List.getElem?_drop] at hj
    exact h.over hs (Nat.le_add_right _ _) hj
  have hmid : ∃ m : List Ent, l = l.take i ++ m ++ l.drop (if f then i + 1 else i) ∧ ∀ e ∈ m, e.k = key := by
    cases f with
    | false => exact ⟨[], by simp, by simp⟩
    | true =>
      obtain ⟨e, he, hk⟩ := h.found.1 rfl
      obtain ⟨hl, rfl⟩ := List.getElem?_eq_some_iff.1 he
      refine ⟨[l[i]], ?_, fun x hx => by rw [List.mem_singleton.1 hx]; exact hk⟩
      simp only [if_true]
      rw [List.append_assoc, List.singleton_append, ← List.drop_eq_getElem_cons hl, List.take_append_drop]
  obtain ⟨m, hm, hmk⟩ := hmid
  generalize l.take i = a at *
  generalize l.drop (if f then i + 1 else i) = b at *
  unfold lows highs
  rw [hm]
  simp only [List.filter_append]
  rw [filter_all (l := a) (fun e he => decide_eq_true (hlow e he)),
    filter_none (l := m) (fun e he => decide_eq_false (by rw [hmk e he]; exact kl_irrefl _)),
    filter_none (l := b) (fun e he => decide_eq_false (kl_asymm (hhigh e he))),
    filter_none (l := a) (fun e he => decide_eq_false (kl_asymm (hlow e he))),
    filter_none (l := m) (fun e he => decide_eq_false (by rw [hmk e he]; exact kl_irrefl _)),
    filter_all (l := b) (fun e he => decide_eq_true (hhigh e he))]
  simp

theorem mem_lows {l : List Ent} {key : ByteArray} {e : Ent} : e ∈ lows l key ↔ e ∈ l ∧ kl e.k key := by simp [lows]
theorem mem_highs {l : List Ent} {key : ByteArray} {e : Ent} : e ∈ highs l key ↔ e ∈ l ∧ kl key e.k := by simp [highs]
theorem mem_put {l : List Ent} {x e : Ent} : e ∈ put l x ↔ e = x ∨ (e ∈ l ∧ e.k ≠ x.k) := by
  unfold put
  simp only [List.mem_append, List.mem_cons, mem_lows, mem_highs]
  constructor
  · rintro (⟨h1, h2⟩ | rfl | ⟨h1, h2⟩)
    · exact .inr ⟨h1, fun e => by rw [e] at h2; exact kl_irrefl _ h2⟩
    · exact .inl rfl
    · exact .inr ⟨h1, fun e => by rw [e] at h2; exact kl_irrefl _ h2⟩
  · rintro (rfl | ⟨h1, h2⟩)
    · exact .inr (.inl rfl)
    · rcases Decidable.em (kl e.k x.k) with h | h
      · exact .inl ⟨h1, h⟩
      · rcases Decidable.em (kl x.k e.k) with h' | h'
        · exact .inr (.inr ⟨h1, h'⟩)
        · exact absurd (kl_tri h h') h2
theorem mem_del {l : List Ent} {key : ByteArray} {e : Ent} : e ∈ del l key ↔ e ∈ l ∧ e.k ≠ key := by
  unfold del
  simp only [List.mem_append, mem_lows, mem_highs]
  constructor
  · rintro (⟨h1, h2⟩ | ⟨h1, h2⟩) <;> exact ⟨h1, fun e => by rw [e] at h2; exact kl_irrefl _ h2⟩
  · rintro ⟨h1, h2⟩
    rcases Decidable.em (kl e.k key) with h | h
    · exact .inl ⟨h1, h⟩
    · rcases Decidable.em (kl key e.k) with h' | h'
      · exact .inr ⟨h1, h'⟩
      · exact absurd (kl_tri h h') h2
theorem sorted_put {l : List Ent} (h : Sorted l) (e : Ent) : Sorted (put l e) := by
  unfold put Sorted
  refine List.pairwise_append.2 ⟨h.filter _, List.pairwise_cons.2 ⟨fun x hx => (mem_highs.1 hx).2, h.filter _⟩, fun a ha b hb => ?_⟩
  rcases List.mem_cons.1 hb with rfl | hb
  · exact (mem_lows.1 ha).2
  · exact kl_trans (mem_lows.1 ha).2 (mem_highs.1 hb).2
theorem sorted_del {l : List Ent} (h : Sorted l) (key : ByteArray) : Sorted (del l key) := by
  unfold del Sorted
  exact List.pairwise_append.2 ⟨h.filter _, h.filter _, fun a ha b hb => kl_trans (mem_lows.1 ha).2 (mem_highs.1 hb).2⟩

theorem lows_lows (l : List Ent) (key : ByteArray) : lows (lows l key) key = lows l key := filter_all fun e he => decide_eq_true (mem_lows.1 he).2
theorem lows_highs (l : List Ent) (key : ByteArray) : lows (highs l key) key = [] := filter_none fun e he => decide_eq_false (kl_asymm (mem_highs.1 he).2)
theorem highs_lows (l : List Ent) (key : ByteArray) : highs (lows l key) key = [] := filter_none fun e he => decide_eq_false (kl_asymm (mem_lows.1 he).2)
theorem highs_highs (l : List Ent) (key : ByteArray) : highs (highs l key) key = highs l key := filter_all fun e he => decide_eq_true (mem_highs.1 he).2
theorem lows_append (a b : List Ent) (key : ByteArray) : lows (a ++ b) key = lows a key ++ lows b key := List.filter_append _ _
theorem highs_append (a b : List Ent) (key : ByteArray) : highs (a ++ b) key = highs a key ++ highs b key := List.filter_append _ _
theorem lows_one (e : Ent) : lows [e] e.k = [] := filter_none fun x hx => by rw [List.mem_singleton.1 hx]; exact decide_eq_false (kl_irrefl _)
theorem highs_one (e : Ent) : highs [e] e.k = [] := filter_none fun x hx => by rw [List.mem_singleton.1 hx]; exact decide_eq_false (kl_irrefl _)
theorem lows_put (l : List Ent) (e : Ent) : lows (put l e) e.k = lows l e.k := by
  unfold put
  rw [← List.singleton_append, lows_append, lows_append, lows_lows, lows_one, lows_highs]
  simp
theorem highs_put (l : List Ent) (e : Ent) : highs (put l e) e.k = highs l e.k := by
  unfold put
  rw [← List.singleton_append, highs_append, highs_append, highs_lows, highs_one, highs_highs]
  simp
theorem del_put (l : List Ent) (e : Ent) : del (put l e) e.k = del l e.k := by
  unfold del
  rw [lows_put, highs_put]
theorem put_del (l : List Ent) (e : Ent) : put (del l e.k) e = put l e := by
  have h1 : lows (del l e.k) e.k = lows l e.k := by unfold del; rw [lows_append, lows_lows, lows_highs, List.append_nil]
  have h2 : highs (del l e.k) e.k = highs l e.k := by unfold del; rw [highs_append, highs_lows, highs_highs, List.nil_append]
  unfold put
  rw [h1, h2]

/-- Which list pair.With and pair.Without make, by the place that the search answered. -/
def wth (l : List Ent) (e : Ent) (i : Nat) (f : Bool) : List Ent := l.take i ++ e :: l.drop (if f then i + 1 else i)
def wout (l : List Ent) (i : Nat) (f : Bool) : List Ent := l.take i ++ l.drop (if f then i + 1 else i)
theorem Place.wth {l : List Ent} {e : Ent} {i : Nat} {f : Bool} (h : Place l e.k i f) (hs : Sorted l) : wth l e i f = put l e := by
  unfold Go.Proofs.YtelenboncejdaaaGreatDoor.wth put
  rw [(h.split hs).1, (h.split hs).2]
theorem Place.wout {l : List Ent} {key : ByteArray} {i : Nat} {f : Bool} (h : Place l key i f) (hs : Sorted l) : wout l i f = del l key := by
  unfold Go.Proofs.YtelenboncejdaaaGreatDoor.wout del
  rw [(h.split hs).1, (h.split hs).2]
theorem Place.lt {l : List Ent} {key : ByteArray} {i : Nat} (h : Place l key i true) : i < l.length := by
  obtain ⟨e, he, _⟩ := h.found.1 rfl
  exact (List.getElem?_eq_some_iff.1 he).1
theorem Place.wout_len {l : List Ent} {key : ByteArray} {i : Nat} {f : Bool} (h : Place l key i f) : (Go.Proofs.YtelenboncejdaaaGreatDoor.wout l i f).length = l.length - (if f then 1 else 0) := by
  unfold Go.Proofs.YtelenboncejdaaaGreatDoor.wout
  have := h.le
  cases f with
  | false => simp <;> omega
  | true => have := h.lt; simp <;> omega
theorem Place.wth_len {l : List Ent} {e : Ent} {i : Nat} {f : Bool} (h : Place l e.k i f) : (Go.Proofs.YtelenboncejdaaaGreatDoor.wth l e i f).length = l.length + (if f then 0 else 1) := by
  unfold Go.Proofs.YtelenboncejdaaaGreatDoor.wth
  have := h.le
  cases f with
  | false => simp <;> omega
  | true => have := h.lt; simp <;> omega

/-- The last entry with a key. -/
def lastOf (l : List Ent) (key : ByteArray) : Option Ent := l.foldl (fun o e => if e.k = key then some e else o) none
theorem lastOf_snoc (l : List Ent) (x : Ent) (key : ByteArray) : lastOf (l ++ [x]) key = if x.k = key then some x else lastOf l key := by
  unfold lastOf
  rw [List.foldl_append]
  rfl
/-- A list built of entries. -/
def builtOf (l : List Ent) : List Ent := l.foldl put []
theorem builtOf_snoc (l : List Ent) (x : Ent) : builtOf (l ++ [x]) = put (builtOf l) x := by
  unfold builtOf
  rw [List.foldl_append]
  rfl
theorem take_snoc {l : List Ent} {k : Nat} {x : Ent} (h : l[k]? = some x) : l.take (k + 1) = l.take k ++ [x] := by
  rw [List.take_add_one, h]
  rfl
theorem sorted_builtOf_take (l : List Ent) (k : Nat) : Sorted (builtOf (l.take k)) := by
  induction k with
  | zero => simp [builtOf, Sorted]
  | succ k ih =>
    cases h : l[k]? with
    | none =>
      rw [List.take_add_one, h]
      simpa using ih
    | some x =>
      rw [take_snoc h, builtOf_snoc]
      exact sorted_put ih x
theorem sorted_builtOf (l : List Ent) : Sorted (builtOf l) := by
  have := sorted_builtOf_take l l.length
  rwa [List.take_length] at this
theorem mem_builtOf_take (l : List Ent) (k : Nat) (e : Ent) : e ∈ builtOf (l.take k) ↔ lastOf (l.take k) e.k = some e := by
  induction k with
  | zero => simp [builtOf, lastOf]
  | succ k ih =>
    cases h : l[k]? with
    | none =>
      rw [List.take_add_one, h]
      simpa using ih
    | some x =>
      rw [take_snoc h, builtOf_snoc, lastOf_snoc, mem_put]
      by_cases hx : x.k = e.k
      · rw [if_pos hx]
        constructor
        · rintro (rfl | ⟨_, h2⟩)
          · rfl
          · exact absurd hx.symm h2
        · intro h2
          exact .inl (Option.some.inj h2).symm
      · rw [if_neg hx, ← ih]
        constructor
        · rintro (rfl | ⟨h1, _⟩)
          · exact absurd rfl hx
          · exact h1
        · intro h1
          exact .inr ⟨h1, fun h2 => hx h2.symm⟩
theorem mem_builtOf (l : List Ent) (e : Ent) : e ∈ builtOf l ↔ lastOf l e.k = some e := by
  have := mem_builtOf_take l l.length e
  rwa [List.take_length] at this
theorem lastOf_key {l : List Ent} {key : ByteArray} {e : Ent} (h : lastOf l key = some e) : e.k = key := by
  have : ∀ k, lastOf (l.take k) key = some e → e.k = key := by
    intro k
    induction k with
    | zero => intro h; simp [lastOf] at h
    | succ k ih =>
      cases hx : l[k]? with
      | none =>
        rw [List.take_add_one, hx]
        simpa using ih
      | some x =>
        rw [take_snoc hx, lastOf_snoc]
        by_cases hk : x.k = key
        · rw [if_pos hk]
          intro h2
          rw [← Option.some.inj h2]
          exact hk
        · rw [if_neg hk]
          exact ih
  exact this l.length (by rwa [List.take_length])
theorem put_len (l : List Ent) (e : Ent) (h : Sorted l) : (put l e).length ≤ l.length + 1 := by
  have h1 : (lows l e.k).length + (highs l e.k).length ≤ l.length := by
    unfold lows highs
    clear h
    induction l with
    | nil => simp
    | cons x l ih =>
      simp only [List.filter_cons]
      by_cases h1 : kl x.k e.k
      · have h2 := kl_asymm h1
        simp [h1, h2]; omega
      · by_cases h2 : kl e.k x.k
        · simp [h1, h2]; omega
        · simp [h1, h2]; omega
  unfold put
  simp
  omega
theorem builtOf_len_take (l : List Ent) (k : Nat) : (builtOf (l.take k)).length ≤ k := by
  induction k with
  | zero => simp [builtOf]
  | succ k ih =>
    cases h : l[k]? with
    | none =>
      rw [List.take_add_one, h]
      simp
      omega
    | some x =>
      rw [take_snoc h, builtOf_snoc]
      have := put_len (builtOf (l.take k)) x (sorted_builtOf_take l k)
      omega
/-- Of a sorted list each key has its own place. -/
theorem place_self {l : List Ent} (hs : Sorted l) {i : Nat} {e : Ent} (he : l[i]? = some e) : Place l e.k i true where
  le := Nat.le_of_lt (List.getElem?_eq_some_iff.1 he).1
  found := ⟨fun _ => ⟨e, he, rfl⟩, fun _ => rfl⟩
  under := fun _ j x hj hx => sorted_lt hs hj hx he
  above := fun _ j x hj hx => by
    rcases Nat.lt_or_ge i j with h | h
    · exact kl_asymm (sorted_lt hs h he hx)
    · have : j = i := by omega
      subst this
      rw [he] at hx
      cases hx
      exact kl_irrefl _

end Go.Proofs.YtelenboncejdaaaGreatDoor

/-
  The contract of pair.Rise and of the reference's: whether keys rise; conditions: the slice can be read.
-/
namespace Go.Proofs.YtelenboncejdaaaGreatDoor
open Go.RowKit Go.Sort
set_option linter.unusedVariables false

set_option maxHeartbeats 400000 in
theorem rise_any (A : Option Addr) (n c : Nat) (l : List Ent) (w : World) (hr : Es w A l) (hn : l.length = n) (hb : n ≤ 100000000000) :
    Calls Tryz.prog 86 #[.slice A n c] w fun e w' => e = .returned (.bool (decide (Sorted l))) ∧ Below w.heap.size w w' := by
  have Hn := Lib.hid hn
  clear hn
  go_enter Tryz.func86, Tryz.ntmps86
  go_wp2
  go_loopw [3] (fun i wr => ∃ k : Nat, i = .int .i64 (k + 1 : Nat) ∧ Below w.heap.size w wr ∧ ∀ (j : Nat) (a b : Ent), j < k → l[j]? = some a → l[j + 1]? = some b → kl a.k b.k) (fun i _ => n - (intOf i).toNat)
  case atStart => exact ⟨0, rfl, Below.refl _ _, fun j _ _ hj => absurd hj (by omega)⟩
  case round =>
    obtain ⟨k, rfl, hb, hadj⟩ := hrel
    by_cases hlt : k + 1 < n
    · obtain ⟨ad, x, rfl, hx, hl, h1, h2⟩ := (hr.below hb).at_ (i := k + 1) (by rw [Hn.out]; exact hlt)
      obtain ⟨ad', y, e', hy, _, h3, h4⟩ := (hr.below hb).at_ (i := k) (by rw [Hn.out]; omega)
      cases e'
      have Hx := Lib.hid hx
      have Hy := Lib.hid hy
      have Hadj := Lib.hid hadj
      clear hx hy hadj
      have hle := less_eq y.k x.k
      by_cases hd : kl y.k x.k
      · rw [decide_eq_true hd] at hle
        go_wp2
        go_quiet (fail)
        go_wp2
        refine ⟨⟨k + 1, by go_num, below_drewN hb _, fun j a b hj ha hbb => ?_⟩, by simp [intOf]; omega⟩
        rcases Nat.lt_or_ge j k with hjk | hjk
        · exact Hadj.out j a b hjk ha hbb
        · have : j = k := by omega
          subst this
          rw [Hy.out] at ha
          rw [Hx.out] at hbb
          cases ha; cases hbb
          exact hd
      · rw [decide_eq_false hd] at hle
        go_wp2
        go_quiet (fail)
        go_wp2
        go_ret
        refine ⟨?_, below_drewN hb _⟩
        rw [show decide (Sorted l) = false from decide_eq_false fun hs => hd (sorted_lt hs (Nat.lt_succ_self k) Hy.out Hx.out)]
        rfl
    have Hadj := Lib.hid hadj
    clear hadj
    go_wp2
    go_ret
    refine ⟨?_, hb⟩
    rw [show decide (Sorted l) = true from decide_eq_true (sorted_of_adj fun j a b ha hb => Hadj.out j a b (by have := (List.getElem?_eq_some_iff.1 hb).1; rw [Hn.out] at this; omega) ha hb)]
    rfl

end Go.Proofs.YtelenboncejdaaaGreatDoor

/-
  The contracts of pair.Find, of pair.cut and of the reference's Find: a key's place; conditions: the slice can be read.
-/
namespace Go.Proofs.YtelenboncejdaaaGreatDoor
open Go.RowKit Go.Sort
set_option linter.unusedVariables false

/-- Half-way of a search. -/
structure Mid (l : List Ent) (key : ByteArray) (lo hi : Nat) : Prop where
  under : Sorted l → ∀ j e, j < lo → l[j]? = some e → kl e.k key
  above : Sorted l → ∀ j e, hi ≤ j → l[j]? = some e → ¬ kl e.k key
theorem Mid.up {l : List Ent} {key : ByteArray} {lo hi m : Nat} {e : Ent} (h : Mid l key lo hi) (he : l[m]? = some e) (hk : kl e.k key) : Mid l key (m + 1) hi where
  under := fun hs j x hj hx => by
    rcases Nat.lt_or_ge j m with hjm | hjm
    · exact kl_trans (sorted_lt hs hjm hx he) hk
    · have : j = m := by omega
      subst this
      rw [he] at hx
      cases hx
      exact hk
  above := h.above
theorem Mid.down {l : List Ent} {key : ByteArray} {lo hi m : Nat} {e : Ent} (h : Mid l key lo hi) (he : l[m]? = some e) (hk : ¬ kl e.k key) : Mid l key lo m where
  under := h.under
  above := fun hs j x hj hx => by
    rcases Nat.lt_or_ge m j with hjm | hjm
    · exact fun hx2 => hk (kl_trans (sorted_lt hs hjm he hx) hx2)
    · have : j = m := by omega
      subst this
      rw [he] at hx
      cases hx
      exact hk
theorem Mid.place {l : List Ent} {key : ByteArray} {i : Nat} (h : Mid l key i i) (hi : i ≤ l.length) {f : Bool} (hf : f = true ↔ ∃ e, l[i]? = some e ∧ e.k = key) : Place l key i f := ⟨hi, hf, h.under, h.above⟩

/-- What a search answers. -/
def FindPost (w : World) (l : List Ent) (key : ByteArray) (e : Ending) (w' : World) : Prop :=
  ∃ (i : Nat) (f : Bool), e = .returned (.tuple #[.int .i64 i, .bool f]) ∧ Place l key i f ∧ Below w.heap.size w w'

set_option maxHeartbeats 400000 in
theorem find_any (A : Option Addr) (n c : Nat) (l : List Ent) (key : ByteArray) (w : World) (hr : Es w A l) (hn : l.length = n) (hb : n ≤ 100000000000) :
    Calls Tryz.prog 89 #[.slice A n c, .string key] w (FindPost w l key) := by
  have Hn := Lib.hid hn
  clear hn
  go_enter Tryz.func89, Tryz.ntmps89
  go_wp2
  go_loop [6, 7] (fun s6 s7 => ∃ lo hi : Nat, s6 = .int .i64 lo ∧ s7 = .int .i64 hi ∧ lo ≤ hi ∧ hi ≤ n ∧ Mid l key lo hi) (fun s6 s7 => (intOf s7).toNat - (intOf s6).toNat)
  case atStart => exact ⟨0, n, rfl, rfl, Nat.zero_le _, Nat.le_refl _, ⟨fun _ j _ hj => absurd hj (by omega), fun _ j e hj he => by have := (List.getElem?_eq_some_iff.1 he).1; rw [Hn.out] at this; omega⟩⟩
  case round =>
    obtain ⟨lo, hi, rfl, rfl, hle, hin, hmid⟩ := hrel
    have HM := Lib.hid hmid
    clear hmid
    by_cases hlt : lo < hi
    · obtain ⟨m, hm⟩ : ∃ m, m = lo + (hi - lo) / 2 := ⟨_, rfl⟩
      have hm1 : lo ≤ m := by omega
      have hm2 : m < hi := by omega
      have hmi : (lo : Int) + ((hi : Int) - lo).tdiv 2 = (m : Int) := by
        have h2 : ((hi : Int) - lo).tdiv 2 = ((hi - lo : Nat) / 2 : Nat) := by
          rw [show ((hi : Int) - lo) = ((hi - lo : Nat) : Int) by omega]
          rfl
        rw [h2]
        omega
      obtain ⟨ad, x, rfl, hx, hl, h1, h2⟩ := hr.at_ (i := m) (by rw [Hn.out]; omega)
      have Hx := Lib.hid hx
      clear hx hm
      have hle2 := less_eq x.k key
      by_cases hd : kl x.k key
      · rw [decide_eq_true hd] at hle2
        go_wp2
        exact ⟨⟨m + 1, hi, by go_num, rfl, by omega, hin, HM.out.up Hx.out hd⟩, by simp [intOf]; omega⟩
      · rw [decide_eq_false hd] at hle2
        go_wp2
        exact ⟨⟨lo, m, rfl, rfl, hm1, by omega, HM.out.down Hx.out hd⟩, by simp [intOf]; omega⟩
    · have he : lo = hi := by omega
      subst he
      clear hle hlt
      by_cases hln : lo < n
      · obtain ⟨ad, x, rfl, hx, hl, h1, h2⟩ := hr.at_ (i := lo) (by rw [Hn.out]; omega)
        have Hx := Lib.hid hx
        clear hx
        have hln' : (lo : Int) < n := by omega
        have hd : decide ((lo : Int) < n) = true := decide_eq_true hln'
        have hsm := same_eq x.k key
        by_cases hk : x.k = key
        · rw [decide_eq_true hk] at hsm
          clear hln'
          go_wp2
          go_quiet (fail)
          go_wp2
          go_ret2
          exact ⟨lo, true, rfl, HM.out.place (by rw [Hn.out]; exact hin) ⟨fun _ => ⟨x, Hx.out, hk⟩, fun _ => rfl⟩, below_drewN (Below.refl _ _) _⟩
        · rw [decide_eq_false hk] at hsm
          clear hln'
          go_wp2
          go_quiet (fail)
          go_wp2
          go_ret2
          exact ⟨lo, false, rfl, HM.out.place (by rw [Hn.out]; exact hin) ⟨fun h => (by cases h), fun ⟨y, hy, hyk⟩ => by rw [Hx.out] at hy; cases hy; exact absurd hyk hk⟩, below_drewN (Below.refl _ _) _⟩
      · have hd : decide ((lo : Int) < n) = false := decide_eq_false (by omega)
        go_wp2
        go_quiet (fail)
        go_wp2
        go_ret2
        exact ⟨lo, false, rfl, HM.out.place (by rw [Hn.out]; exact hin) ⟨fun h => (by cases h), fun ⟨y, hy, _⟩ => by have := (List.getElem?_eq_some_iff.1 hy).1; rw [Hn.out] at this; omega⟩, below_drewN (Below.refl _ _) _⟩

/-- Half-way of the reference's search. -/
structure Run (l : List Ent) (key : ByteArray) (n i : Nat) : Prop where
  le : n ≤ i
  under : ∀ j e, j < n → l[j]? = some e → kl e.k key
  above : ∀ j e, n ≤ j → j < i → l[j]? = some e → kl key e.k

end Go.Proofs.YtelenboncejdaaaGreatDoor

/-
  The contracts of pair.cut, pair.join, pair.With and pair.Without: a new list in a row of its own; conditions: the slice can be read, its length is small.
-/
namespace Go.Proofs.YtelenboncejdaaaGreatDoor
open Go.RowKit Go.Sort
set_option linter.unusedVariables false

/-- What pair.cut answers. -/
def CutPost (w : World) (l : List Ent) (key : ByteArray) (e : Ending) (w' : World) : Prop :=
  ∃ (i : Nat) (f : Bool) (A B : Option Addr) (m k c d : Nat), e = .returned (.tuple #[.slice A m c, .slice B k d, .bool f]) ∧ Place l key i f ∧ (l.take i).length = m ∧ (l.drop (if f then i + 1 else i)).length = k ∧
    Es w' A (l.take i) ∧ Es w' B (l.drop (if f then i + 1 else i)) ∧ Below w.heap.size w w'

theorem Es.cut {w : World} {A : Option Addr} {l : List Ent} (h : Es w A l) {k c : Nat} (hc : l.length ≤ c) : Es w (if c = k then A else A.map (·.add (k * 2))) (l.drop k) := fun h0 => by
  rw [List.length_drop] at h0
  obtain ⟨ad, rfl, _⟩ := h (by omega)
  rw [if_neg (by omega)]
  exact h.drop k (by rw [List.length_drop]; exact h0)

set_option maxHeartbeats 400000 in
theorem cut_any (A : Option Addr) (n c : Nat) (l : List Ent) (key : ByteArray) (w : World) (hr : Es w A l) (hn : l.length = n) (hc : n ≤ c) (hb : n ≤ 100000000000) :
    Calls Tryz.prog 125 #[.slice A n c, .string key] w (CutPost w l key) := by
  have Hn := Lib.hid hn
  clear hn
  go_enter Tryz.func125, Tryz.ntmps125
  go_wp2_with fail
  refine (find_any A n c l key w hr Hn.out hb).mono ?_
  rintro e w1 ⟨i, f, rfl, hp, hb1⟩
  have hi : i ≤ n := by have := hp.le; rw [Hn.out] at this; exact this
  cases f with
  | true =>
    have hi2 : i < n := by have := hp.lt; rw [Hn.out] at this; exact this
    have HP := Lib.hid hp
    clear hp
    go_wp2
    go_quiet (fail)
    have hr1 := hr.below (below_drewN hb1 nq)
    have hr2 := hr1.cut (k := i + 1) (c := c) (by rw [Hn.out]; exact hc)
    generalize (if c = i + 1 then A else A.map (·.add ((i + 1) * 2))) = B at hr2 ⊢
    go_wp2
    go_ret3
    exact ⟨i, true, _, _, _, _, _, _, rfl, HP.out, by rw [List.length_take, Hn.out]; omega, by rw [List.length_drop, Hn.out]; rfl, hr1.take i, hr2, below_drewN hb1 nq⟩
  | false =>
    have HP := Lib.hid hp
    clear hp
    go_wp2
    go_quiet (fail)
    have hr1 := hr.below (below_drewN hb1 nq)
    have hr2 := hr1.cut (k := i) (c := c) (by rw [Hn.out]; exact hc)
    generalize (if c = i then A else A.map (·.add ((i) * 2))) = B at hr2 ⊢
    go_wp2
    go_ret3
    exact ⟨i, false, _, _, _, _, _, _, rfl, HP.out, by rw [List.length_take, Hn.out]; omega, by rw [List.length_drop, Hn.out]; rfl, hr1.take i, hr2, below_drewN hb1 nq⟩

/-- A part of a list that is joined. -/
structure Part where
  A : Option Addr
  c : Nat
  l : List Ent
def pcells (ps : List Part) : List Value := ps.map fun p => .slice p.A p.l.length p.c
def pall (ps : List Part) : List Ent := ps.flatMap (·.l)
theorem pall_snoc {ps : List Part} {k : Nat} {p : Part} (h : ps[k]? = some p) : pall (ps.take (k + 1)) = pall (ps.take k) ++ p.l := by
  rw [List.take_add_one, h]
  simp [pall]

theorem einfo : (Tryz.prog.info? 87).map (fun i => (i.zero, i.size, i.bytes)) = some (some (.agg #[.string ByteArray.empty, .string ByteArray.empty]), 2, 32) := by kernel_rfl
theorem ent_parts : ∃ i, Tryz.prog.info? 87 = some i ∧ i.zero = some (.agg #[.string ByteArray.empty, .string ByteArray.empty]) ∧ i.size = 2 ∧ i.bytes = 32 := info_parts einfo

/-- make([]Entry, 0, c). -/
theorem run_make_ents (c : Nat) (hb : c ≤ 1000000) (w : World) :
    (Instr.makeSlice 22 (.int .i64 0) (.int .i64 (c : Int))).run Tryz.prog w =
      .ok (.slice (some ⟨w.heap.size, 0, none⟩) 0 c) (w.alloc (.cells (madeCells #[.string ByteArray.empty, .string ByteArray.empty] (c * 2)) 87)) := by
  obtain ⟨i0, hi0, hz0, hz1, hz2⟩ := ent_parts
  have hr := run_make (P := Tryz.prog) w 22 87 i0 _ Tryz.underlying22 hi0 hz0 .i64 .i64 (0 : Int) (c : Int) (by omega) (by omega) (by rw [hz2]; omega) (by omega)
  rw [hz1] at hr
  simpa [Value.cells] using hr

/-- Entries in a row of the call's own. -/
def Own (w : World) (base : Nat) (v : Value) (l : List Ent) : Prop := w.ownsRow base 87 2 v l.length (ecells l)
theorem Own.form {w : World} {base : Nat} {v : Value} {l : List Ent} (h : Own w base v l) : ∃ A c, v = .slice A l.length c ∧ l.length ≤ c ∧ Es w A l := by
  rcases h.2 with ⟨rfl, h0⟩ | ⟨g, cap, cur, rfl, hg, hh, hc, _⟩
  · exact ⟨none, 0, by rw [h0], by omega, fun hl => by omega⟩
  · exact ⟨_, _, rfl, hc, fun _ => ⟨_, rfl, lt_of_block hh, h.cells (g := g) rfl⟩⟩
theorem Own.at_block {w : World} {base : Nat} {v : Value} {l : List Ent} (h : Own w base v l) : ∀ g, v.ownBlock = some g → base ≤ g := by
  intro g hg
  rcases h.2 with ⟨rfl, h0⟩ | ⟨g', cap, cur, rfl, hb, _⟩
  · simp [Value.ownBlock] at hg
  · have : g' = g := by simpa [Value.ownBlock] using hg
    omega
theorem Own.below {w w' : World} {base : Nat} {v : Value} {l : List Ent} (h : Own w base v l) (hb : Below w.heap.size w w') : Own w' base v l := by
  refine ⟨h.1, ?_⟩
  rcases h.2 with hv | ⟨g, cap, cur, h1, h2, h3, h4⟩
  · exact .inl hv
  · exact .inr ⟨g, cap, cur, h1, h2, (hb.block g (lt_of_block h3)).trans h3, h4⟩
theorem Own.mono {w : World} {b b' : Nat} {v : Value} {l : List Ent} (h : Own w b v l) (hb : b' ≤ b) : Own w b' v l := by
  refine ⟨h.1, ?_⟩
  rcases h.2 with hv | ⟨g, cap, cur, h1, h2, h3⟩
  · exact .inl hv
  · exact .inr ⟨g, cap, cur, h1, Nat.le_trans hb h2, h3⟩
theorem Own.nil_ (w : World) (base : Nat) : Own w base (.slice none 0 0) [] := ⟨rfl, .inl ⟨rfl, rfl⟩⟩
theorem Own.made (w : World) (c : Nat) (hc : c ≤ 1000000) : Own (w.alloc (.cells (madeCells #[.string ByteArray.empty, .string ByteArray.empty] (c * 2)) 87)) w.heap.size (.slice (some ⟨w.heap.size, 0, none⟩) 0 c) [] :=
  ⟨rfl, .inr ⟨w.heap.size, c, _, rfl, Nat.le_refl _, heap_alloc_new w _, Nat.zero_le _, by simp only [maxLen]; omega, size_madeCells _ _, rfl⟩⟩
theorem Own.grow_below {a w w' : World} {base : Nat} {v : Value} {l : List Ent} (h : Own w base v l) (hb : Below base a w) (hs : base ≤ w.heap.size) (hg : w.grownBy w' v.ownBlock) : Below base a w' :=
  hb.grown hg hs (fun k hk => h.at_block k hk)

/-- append(v, part...): onto a row of the call's own. -/
theorem run_append_ents (ty : TypeId) {w : World} {base : Nat} {v : Value} {xs : List Ent} (hown : Own w base v xs) {A : Option Addr} {l : List Ent} (n c : Nat) (hr : Es w A l) (hn : l.length = n) (hb : xs.length + n ≤ 1000000) (hbase : base ≤ w.heap.size) :
    ∃ v' w', (Builtin.append_ #[22, 22] ty #[v, .slice A n c]).run Tryz.prog w = .ok v' w' ∧ Own w' base v' (xs ++ l) ∧ w.grownBy w' v.ownBlock := by
  subst hn
  obtain ⟨i0, hi0, hz0, hz1, hz2⟩ := ent_parts
  rcases A with _ | ad
  · have h0 : l = [] := by
      rcases Nat.eq_zero_or_pos l.length with h0 | h0
      · exact List.eq_nil_of_length_eq_zero h0
      · obtain ⟨ad, e, _⟩ := hr h0
        cases e
    subst h0
    refine ⟨v, w, ?_, by simpa using hown, World.grownBy.refl w _⟩
    rcases hown.2 with ⟨rfl, h1⟩ | ⟨g, cap, cur, rfl, _, _, hnc, _⟩
    · simp [Builtin.append_, run_underlying Tryz.underlying22, sizeOf, typeInfo, hi0, Builtin.lenOf, Builtin.firstCells]
    · simp [Builtin.append_, run_underlying Tryz.underlying22, sizeOf, typeInfo, hi0, Builtin.lenOf, Builtin.firstCells, hnc, storeCells]
  · have hcells : ∀ j u, (ecells l)[j]? = some u → w.cell? (ad.add j) = some u := by
      intro j u hu
      have hl : 0 < l.length := by
        have := (List.getElem?_eq_some_iff.1 hu).1
        rw [ecells_length] at this
        omega
      obtain ⟨ad', e, _, hc⟩ := hr hl
      cases e
      exact hc j u hu
    obtain ⟨v', w', h1, h2, h3, _⟩ := run_append_own (P := Tryz.prog) w base 22 ty 87 i0 _ 2 32 Tryz.underlying22 hi0 hz0 hz1 hz2 rfl (by omega) v xs.length (ecells xs) hown ad l.length c (ecells l) (ecells_length l) hcells (ecells_one l) (by simp only [maxLen]; omega) (by omega) hbase
    exact ⟨v', w', h1, by unfold Own; rw [ecells_append, List.length_append]; exact h2, h3⟩

theorem wpList_append_ran {ops : Array Oper} {rest : List Oper} {o : Oper} {a : Act} {w : World} {Q : Exit → Act → World → Prop} (hgd : o.guard = none) (s x : Operand) (t : TypeId)
    (ho : o.op = .call { callee := .builtin .append, args := #[s, x], argTypes := #[t, t] }) (v u v' : Value) (w' : World) (hs : a.eval s = v) (hx : a.eval x = u)
    (hrun : (Builtin.append_ #[t, t] o.type #[v, u]).run Tryz.prog w = .ok v' w') (h : wpList Tryz.prog ops Q rest (a.put o.dst v') w') : wpList Tryz.prog ops Q (o :: rest) a w :=
  wpList_plain hgd fun _ hK => by
    unfold Oper.wp execOp
    simp only [ho, resolve, invoke, builtin, Sem.run_bind, Sem.run_pure, Result.andThen_ok, List.map_toArray, List.map_cons, List.map_nil, hs, hx, hrun]
    exact hK _ _ h

set_option maxHeartbeats 800000 in
theorem join_any (ad : Addr) (K c : Nat) (ps : List Part) (w : World) (hlt : ad.block < w.heap.size) (hK : ps.length = K) (hc : ∀ j p, ps[j]? = some p → w.cell? (ad.add j) = some (.slice p.A p.l.length p.c) ∧ Es w p.A p.l)
    (hb : (pall ps).length ≤ 100000) (hKb : K ≤ 100000) :
    Calls Tryz.prog 126 #[.slice (some ad) K c] w fun e w' => ∃ v, e = .returned v ∧ Own w' w.heap.size v (pall ps) ∧ Below w.heap.size w w' := by
  have HK := Lib.hid hK
  have HC := Lib.hid hc
  clear hK hc
  have hsub : ∀ k p, ps[k]? = some p → (pall (ps.take k)).length + p.l.length ≤ 100000 := by
    intro k p hp
    have h1 := pall_snoc hp
    have h2 : pall ps = pall (ps.take (k + 1)) ++ pall (ps.drop (k + 1)) := by
      unfold pall
      rw [← List.flatMap_append, List.take_append_drop]
    rw [h2, h1] at hb
    simp at hb
    omega
  have HS := Lib.hid hsub
  clear hsub
  go_enter Tryz.func126, Tryz.ntmps126
  go_wp2
  go_loop [3, 11] (fun s3 s11 => ∃ k : Nat, k ≤ K ∧ s11 = .int .i64 k ∧ s3 = .int .i64 (pall (ps.take k)).length) (fun _ s11 => K - (intOf s11).toNat)
  case atStart => exact ⟨0, Nat.zero_le _, rfl, rfl⟩
  case round =>
    obtain ⟨k, hk, rfl, rfl⟩ := hrel
    by_cases hlt : k < K
    · have hkl : k < ps.length := by rw [HK.out]; exact hlt
      obtain ⟨p, hp⟩ : ∃ p, ps[k]? = some p := ⟨_, List.getElem?_eq_getElem hkl⟩
      have hcell := (HC.out k p hp).1
      have hsum := HS.out k p hp
      have hnx := pall_snoc hp
      have HNX : Hid ((pall (ps.take (k + 1))).length = (pall (ps.take k)).length + p.l.length) := Lib.hid (by rw [hnx, List.length_append])
      clear hp hkl hnx
      generalize (pall (ps.take k)).length = q at *
      go_wp2
      refine ⟨⟨k + 1, by omega, by go_num, ?_⟩, by simp [intOf]; omega⟩
      rw [HNX.out]
      go_num
    · have he : k = K := by omega
      subst he
      rw [List.take_of_length_le (by rw [HK.out]; exact Nat.le_refl _)]
      obtain ⟨q, hq⟩ : ∃ q, q = (pall ps).length := ⟨_, rfl⟩
      rw [← hq]
      have hqb : q ≤ 100000 := by omega
      have hmk := run_make_ents q (by omega)
      have hown := Own.made w q (by omega)
      generalize madeCells #[Value.string ByteArray.empty, Value.string ByteArray.empty] (q * 2) = Z at *
      have Hown := Lib.hid hown
      have Hq := Lib.hid hq
      clear hq hown
      go_wp2
      go_loopw [6, 24] (fun s6 s24 wr => ∃ j : Nat, j ≤ k ∧ s24 = .int .i64 j ∧ Own wr w.heap.size s6 (pall (ps.take j)) ∧ Below w.heap.size w wr) (fun _ s24 _ => k - (intOf s24).toNat)
      case atStart => exact ⟨0, Nat.zero_le _, rfl, Hown.out, (Below.refl _ _).alloc (Nat.le_refl _) _⟩
      case round =>
        obtain ⟨j, hj, rfl, hown, hbw⟩ := hrel
        by_cases hlt2 : j < k
        · have hkl : j < ps.length := by rw [HK.out]; exact hlt2
          obtain ⟨p, hp⟩ : ∃ p, ps[j]? = some p := ⟨_, List.getElem?_eq_getElem hkl⟩
          obtain ⟨hcell0, hes⟩ := HC.out j p hp
          have hcell := (hbw.cell (by rw [block_of_add]; assumption)).trans hcell0
          have hsum := HS.out j p hp
          have hnx := pall_snoc hp
          obtain ⟨v', w2, hrun, hown2, hg2⟩ := run_append_ents 22 hown p.l.length p.c (hes.below hbw) rfl (by omega) hbw.size
          rw [← hnx] at hown2
          have HO := Lib.hid hown2
          have HG := Lib.hid (hown.grow_below hbw hbw.size hg2)
          have HR := Lib.hid hrun
          clear hp hkl hnx hown hown2 hcell0 hg2 hsum hrun
          go_wp2_with (at_builtin; refine wpList_append_ran rfl (.tmp 28) (.tmp 29) 22 rfl _ _ _ _ rfl rfl HR.out ?_)
          exact ⟨⟨j + 1, by omega, by go_num, HO.out, HG.out⟩, by simp [intOf]; omega⟩
        · have he : j = k := by omega
          subst he
          rw [List.take_of_length_le (by rw [HK.out]; exact Nat.le_refl _)] at hown
          have HO := Lib.hid hown
          clear hown
          go_wp2
          go_ret
          exact ⟨_, rfl, HO.out, hbw⟩

end Go.Proofs.YtelenboncejdaaaGreatDoor

/-
  The contracts of pair.With and pair.Without: a new list in a row of its own; conditions: the slice can be read, its length is small.
-/
namespace Go.Proofs.YtelenboncejdaaaGreatDoor
open Go.RowKit Go.Sort
set_option linter.unusedVariables false

/-- An entry in a block of its own. -/
def Box (w : World) (g : Nat) (x : Ent) : Prop := g < w.heap.size ∧ w.cell? ⟨g, 0, none⟩ = some (.string x.k) ∧ w.cell? ⟨g, 1, none⟩ = some (.string x.v)
theorem Box.new (w : World) (x : Ent) (t : TypeId) : Box (w.alloc (.cells #[.string x.k, .string x.v] t)) w.heap.size x :=
  ⟨by simp, World.cell?_alloc_mark w _ t _ 0, World.cell?_alloc_mark w _ t _ 1⟩
theorem Box.below {w w' : World} {g : Nat} {x : Ent} (h : Box w g x) (hb : Below w.heap.size w w') : Box w' g x :=
  ⟨Nat.lt_of_lt_of_le h.1 hb.size, (hb.cell h.1).trans h.2.1, (hb.cell h.1).trans h.2.2⟩

theorem box_es (w : World) (x : Ent) (t : TypeId) : Es (w.alloc (.cells #[.string x.k, .string x.v] t)) (some ⟨w.heap.size, 0, none⟩) [x] :=
  fun _ => ⟨_, rfl, by simp, new_row w #[.string x.k, .string x.v] t⟩
theorem parts_new (w : World) (ps : List Part) (cs : Array Value) (t : TypeId) (hcs : cs.toList = pcells ps) (hes : ∀ p ∈ ps, Es w p.A p.l) (j : Nat) (p : Part) (hp : ps[j]? = some p) :
    (w.alloc (.cells cs t)).cell? ((⟨w.heap.size, 0, none⟩ : Addr).add j) = some (.slice p.A p.l.length p.c) ∧ Es (w.alloc (.cells cs t)) p.A p.l :=
  ⟨new_row w cs t j _ (by rw [hcs, pcells, List.getElem?_map, hp]; rfl), (hes p (List.mem_of_getElem? hp)).below ((Below.refl _ _).alloc (Nat.le_refl _) _)⟩

/-- What pair.With answers. -/
def WithPost (w : World) (l : List Ent) (x : Ent) (e : Ending) (w' : World) : Prop :=
  ∃ (i : Nat) (f : Bool) (v : Value), e = .returned v ∧ Place l x.k i f ∧ Own w' w.heap.size v (wth l x i f) ∧ Below w.heap.size w w'

set_option maxHeartbeats 800000 in
theorem with_any (A : Option Addr) (n c : Nat) (l : List Ent) (x : Ent) (w : World) (hr : Es w A l) (hn : l.length = n) (hc : n ≤ c) (hb : n ≤ 90000) :
    Calls Tryz.prog 92 #[.slice A n c, .agg #[.string x.k, .string x.v]] w (WithPost w l x) := by
  have Hn := Lib.hid hn
  clear hn
  go_enter Tryz.func92, Tryz.ntmps92
  go_wp2_with fail
  have hb0 : Below w.heap.size w (w.alloc (.cells #[.string x.k, .string x.v] 87)) := (Below.refl _ _).alloc (Nat.le_refl _) _
  refine (cut_any A n c l x.k _ (hr.below hb0) Hn.out hc (by omega)).mono ?_
  rintro e w1 ⟨i, f, A1, A2, m, k, c1, c2, rfl, hp, hm, hk, h1, h2, hb1⟩
  have Hb0 := Lib.hid hb0
  obtain ⟨hg, q0, q1⟩ := (Box.new w x 87).below hb1
  have hbw := Lib.hid (bthen hb0 hb1)
  have HP := Lib.hid hp
  have Hm := Lib.hid hm
  have Hk := Lib.hid hk
  clear hb1 hp hm hk hb0
  go_wp2_with fail
  have hm := Hm.out
  subst hm
  have hk := Hk.out
  subst hk
  have hsz : (w1.alloc (.cells #[.string x.k, .string x.v] 87)).heap.size = w1.heap.size + 1 := by simp
  rw [← hsz]
  have hb2 : Below w1.heap.size w1 (w1.alloc (.cells #[.string x.k, .string x.v] 87)) := (Below.refl _ _).alloc (Nat.le_refl _) _
  have hx := box_es w1 x 87
  have hw2 := bthen hbw.out hb2
  replace h1 := h1.below hb2
  replace h2 := h2.below hb2
  generalize w1.alloc (.cells #[.string x.k, .string x.v] 87) = w2 at *
  have hlen := HP.out.wth_len
  have hps : pall [⟨A1, c1, l.take i⟩, ⟨some ⟨w1.heap.size, 0, none⟩, 1, [x]⟩, ⟨A2, c2, l.drop (if f then i + 1 else i)⟩] = wth l x i f := by
    unfold pall wth
    simp
  refine (join_any ⟨w2.heap.size, 0, none⟩ 3 3 [⟨A1, c1, l.take i⟩, ⟨some ⟨w1.heap.size, 0, none⟩, 1, [x]⟩, ⟨A2, c2, l.drop (if f then i + 1 else i)⟩] _ (by simp) rfl (parts_new w2 _ _ _ rfl (fun p hp => ?_)) ?_ (by omega)).mono ?_
  · simp only [List.mem_cons, List.not_mem_nil, or_false] at hp
    rcases hp with rfl | rfl | rfl
    · exact h1
    · exact hx
    · exact h2
  · rw [hps, hlen, Hn.out]
    split <;> omega
  rintro e w3 ⟨v, rfl, hown, hb3⟩
  rw [hps] at hown
  have hb4 : Below w2.heap.size w2 (w2.alloc (.cells #[.slice A1 (l.take i).length c1, .slice (some ⟨w1.heap.size, 0, none⟩) 1 1, .slice A2 (l.drop (if f then i + 1 else i)).length c2] 22)) := (Below.refl _ _).alloc (Nat.le_refl _) _
  have hbl := bthen (bthen hw2 hb4) hb3
  have HO := Lib.hid (hown.mono (b' := w.heap.size) (Nat.le_trans hw2.size (by simp)))
  clear hown hb3 hb4 hw2 hb2 hsz hlen hps
  generalize (l.take i).length = m2
  generalize (l.drop (if f then i + 1 else i)).length = k2
  go_wp2
  go_ret
  exact ⟨i, f, _, rfl, HP.out, HO.out, hbl⟩

/-- What pair.Without answers. -/
def OutPost (w : World) (l : List Ent) (key : ByteArray) (e : Ending) (w' : World) : Prop :=
  ∃ (i : Nat) (f : Bool) (v : Value), e = .returned (.tuple #[v, .bool f]) ∧ Place l key i f ∧ Own w' w.heap.size v (wout l i f) ∧ Below w.heap.size w w'

set_option maxHeartbeats 800000 in
theorem without_any (A : Option Addr) (n c : Nat) (l : List Ent) (key : ByteArray) (w : World) (hr : Es w A l) (hn : l.length = n) (hc : n ≤ c) (hb : n ≤ 90000) :
    Calls Tryz.prog 119 #[.slice A n c, .string key] w (OutPost w l key) := by
  have Hn := Lib.hid hn
  clear hn
  go_enter Tryz.func119, Tryz.ntmps119
  go_wp2_with fail
  refine (cut_any A n c l key _ hr Hn.out hc (by omega)).mono ?_
  rintro e w1 ⟨i, f, A1, A2, m, k, c1, c2, rfl, hp, hm, hk, h1, h2, hb1⟩
  have HP := Lib.hid hp
  have Hm := Lib.hid hm
  have Hk := Lib.hid hk
  clear hp hm hk
  go_wp2_with fail
  have hm := Hm.out
  subst hm
  have hk := Hk.out
  subst hk
  have hlen := HP.out.wout_len
  have hps : pall [⟨A1, c1, l.take i⟩, ⟨A2, c2, l.drop (if f then i + 1 else i)⟩] = wout l i f := by
    unfold pall wout
    simp
  refine (join_any ⟨w1.heap.size, 0, none⟩ 2 2 [⟨A1, c1, l.take i⟩, ⟨A2, c2, l.drop (if f then i + 1 else i)⟩] _ (by simp) rfl (parts_new w1 _ _ _ rfl (fun p hp => ?_)) ?_ (by omega)).mono ?_
  · simp only [List.mem_cons, List.not_mem_nil, or_false] at hp
    rcases hp with rfl | rfl
    · exact h1
    · exact h2
  · rw [hps, hlen, Hn.out]
    split <;> omega
  rintro e w3 ⟨v, rfl, hown, hb3⟩
  rw [hps] at hown
  have hb4 : Below w1.heap.size w1 (w1.alloc (.cells #[.slice A1 (l.take i).length c1, .slice A2 (l.drop (if f then i + 1 else i)).length c2] 22)) := (Below.refl _ _).alloc (Nat.le_refl _) _
  have hbl := bthen (bthen hb1 hb4) hb3
  have HO := Lib.hid (hown.mono (b' := w.heap.size) (Nat.le_trans hb1.size (by simp)))
  clear hown hb3 hb4 hb1 hlen hps
  generalize (l.take i).length = m2
  generalize (l.drop (if f then i + 1 else i)).length = k2
  go_wp2
  go_ret2
  exact ⟨i, f, _, rfl, HP.out, HO.out, hbl⟩

end Go.Proofs.YtelenboncejdaaaGreatDoor

/-
  The contracts of pair.Key, pair.Value, the reference's, awake, few and ref.Same: answers as the document says; conditions stand at each.
-/
namespace Go.Proofs.YtelenboncejdaaaGreatDoor
open Go.RowKit Go.Sort
set_option linter.unusedVariables false

/-- The number of a key's error, and of a value's. -/
def keyNo (s : ByteArray) : Int := if s.size = 0 then 1 else if 24 < s.size then 4 else 0
def valNo (s : ByteArray) : Int := if 400 < s.size then 4 else 0

theorem empty_eq (s : ByteArray) : (s.toList == ([] : List UInt8)) = decide (s.size = 0) := by
  rw [Lib.toList_data]
  by_cases h : s.size = 0
  · have : s.data.toList = [] := List.eq_nil_of_length_eq_zero h
    simp [h, this]
  · have : s.data.toList ≠ [] := fun e => h (by show s.data.toList.length = 0; rw [e]; rfl)
    rw [decide_eq_false h]
    cases hl : s.data.toList with
    | nil => exact absurd hl this
    | cons _ _ => rfl

set_option maxHeartbeats 400000 in
theorem atMost_any (s : ByteArray) (m : Nat) (w : World) (hb : m ≤ 1000) (hs : s.size ≤ 140737488351232) :
    Calls Tryz.prog 87 #[.string s, .int .i64 (m : Nat)] w fun e w' => e = .returned (.int .i64 (if m < s.size then 4 else 0)) ∧ w = w' := by
  by_cases h : m < s.size
  · rw [if_pos h]
    go_enter Tryz.func87, Tryz.ntmps87
    go_wp2
    go_ret
    exact ⟨rfl, rfl⟩
  · rw [if_neg h]
    go_enter Tryz.func87, Tryz.ntmps87
    go_wp2
    go_ret
    exact ⟨rfl, rfl⟩

set_option maxHeartbeats 400000 in
theorem key_any (s : ByteArray) (w : World) (hs : s.size ≤ 140737488351232) :
    Calls Tryz.prog 67 #[.string s] w fun e w' => e = .returned (.int .i64 (keyNo s)) ∧ w = w' := by
  have he := empty_eq s
  unfold keyNo
  by_cases h : s.size = 0
  · rw [if_pos h]
    rw [decide_eq_true h] at he
    clear h
    go_enter Tryz.func67, Tryz.ntmps67
    go_wp2
    go_ret
    exact ⟨rfl, rfl⟩
  · rw [if_neg h]
    rw [decide_eq_false h] at he
    obtain ⟨r, hr⟩ : ∃ r, r = (if 24 < s.size then (4 : Int) else 0) := ⟨_, rfl⟩
    rw [← hr]
    have HR := Lib.hid hr
    clear hr
    go_enter Tryz.func67, Tryz.ntmps67
    go_wp2_with fail
    refine (atMost_any s 24 w (by omega) hs).mono ?_
    rintro e w1 ⟨rfl, rfl⟩
    rw [← HR.out]
    go_wp2
    go_ret
    exact ⟨rfl, rfl⟩

set_option maxHeartbeats 400000 in
theorem value_any (s : ByteArray) (w : World) (hs : s.size ≤ 140737488351232) :
    Calls Tryz.prog 68 #[.string s] w fun e w' => e = .returned (.int .i64 (valNo s)) ∧ w = w' := by
  unfold valNo
  obtain ⟨r, hr⟩ : ∃ r, r = (if 400 < s.size then (4 : Int) else 0) := ⟨_, rfl⟩
  rw [← hr]
  have HR := Lib.hid hr
  clear hr
  go_enter Tryz.func68, Tryz.ntmps68
  go_wp2_with fail
  refine (atMost_any s 400 w (by omega) hs).mono ?_
  rintro e w1 ⟨rfl, rfl⟩
  rw [← HR.out]
  go_wp2
  go_ret
  exact ⟨rfl, rfl⟩

/-- Entries of a size that is looked at. -/
def Few (l : List Ent) : Prop := l.length ≤ 300 ∧ ∀ e ∈ l, e.k.size + e.v.size ≤ 2000
instance (l : List Ent) : Decidable (Few l) := inferInstanceAs (Decidable (_ ∧ _))

theorem equal_same (a b : ByteArray) (w : World) : (Op.equalIn 10000 87 (.agg #[.string a, .string b]) (.agg #[.string a, .string b])).run Tryz.prog w = .ok true w := by
  have hs : (a.toList == a.toList) = true := by rw [same_eq]; simp
  have hs2 : (b.toList == b.toList) = true := by rw [same_eq]; simp
  rw [run_equalIn_agg w 9999 87 _ _ (by kernel_rfl) (by kernel_rfl)]
  have hf : ((Tryz.prog.fieldsOf 87).toList.map fun f => (f.name == "_", f.type, f.offset)) = [(false, 9, 0), (false, 9, 1)] := by kernel_rfl
  revert hf
  generalize (Tryz.prog.fieldsOf 87).toList = fs
  intro hf
  obtain ⟨f0, r0, rfl, h0, hf⟩ := List.map_eq_cons_iff.1 hf
  obtain ⟨f1, r1, rfl, h1, hf⟩ := List.map_eq_cons_iff.1 hf
  obtain rfl := List.map_eq_nil_iff.1 hf
  simp only [Prod.mk.injEq, beq_eq_false_iff_ne] at h0 h1
  obtain ⟨n0, t0, o0⟩ := h0
  obtain ⟨n1, t1, o1⟩ := h1
  have c9 : Tryz.prog.cellsOf 9 = 1 := by kernel_rfl
  simp [Op.eqFields, n0, n1, t0, t1, o0, o1, go_sem]
theorem neq_same (a b : ByteArray) (w : World) : (binOp .neq 87 (.agg #[.string a, .string b]) (.agg #[.string a, .string b])).run Tryz.prog w = .ok (.bool false) w := by
  rw [run_neq_struct, equal_same]
  rfl
theorem eql_same (a b : ByteArray) (w : World) : (binOp .eql 87 (.agg #[.string a, .string b]) (.agg #[.string a, .string b])).run Tryz.prog w = .ok (.bool true) w := by
  rw [run_eql_struct, equal_same]
  rfl

set_option maxHeartbeats 400000 in
/-- ref.Same of lists that are alike. -/
theorem same_any (A B : Option Addr) (n c d : Nat) (l : List Ent) (w : World) (hr : Es w A l) (hs : Es w B l) (hn : l.length = n) (hb : n ≤ 100000000000) :
    Calls Tryz.prog 13 #[.slice A n c, .slice B n d] w fun e w' => e = .returned (.bool true) ∧ Below w.heap.size w w' := by
  have Hn := Lib.hid hn
  clear hn
  go_enter Tryz.func13, Tryz.ntmps13
  go_wp2
  go_loopw [13] (fun i wr => ∃ k : Nat, k ≤ n ∧ i = .int .i64 k ∧ Below w.heap.size w wr) (fun i _ => n - (intOf i).toNat)
  case atStart => exact ⟨0, Nat.zero_le _, rfl, Below.refl _ _⟩
  case round =>
    obtain ⟨k, hk, rfl, hb⟩ := hrel
    by_cases hlt : k < n
    · obtain ⟨ad, x, rfl, hx, hl, h1, h2⟩ := (hr.below hb).at_ (i := k) (by rw [Hn.out]; exact hlt)
      obtain ⟨ad2, x2, rfl, hx2, hl2, h12, h22⟩ := (hs.below hb).at_ (i := k) (by rw [Hn.out]; exact hlt)
      rw [hx] at hx2
      obtain rfl : x = x2 := Option.some.inj hx2
      have hq := neq_same x.k x.v
      clear hx hx2
      go_wp2
      go_quiet (fail)
      go_wp2
      exact ⟨⟨k + 1, by omega, by go_num, below_drewN hb _⟩, by simp [intOf]; omega⟩
    · go_wp2
      go_ret
      exact ⟨rfl, hb⟩

end Go.Proofs.YtelenboncejdaaaGreatDoor

/-
  Arguments of the rows of layer 3: a slice of entries, an entry by value: what the walk is told of each; conditions: the row's own.
-/
namespace Go.Proofs.YtelenboncejdaaaGreatDoor
open Go.RowKit Go.Sort Go.ChangeShapes Go.WideShapes Go.Joins Go.Deep
set_option linter.unusedVariables false

/-- What is known of a slice of entries that comes in. -/
structure Arg (W : World) (A : Option Addr) (n c : Nat) (l : List Ent) : Prop where
  len : l.length = n
  cap : n ≤ c
  small : n ≤ 140737488351232
  es : Es W A l
  strs : ∀ e ∈ l, e.k.size ≤ 140737488351232 ∧ e.v.size ≤ 140737488351232

def strOf : Value → ByteArray
  | .string s => s
  | _ => ByteArray.empty

theorem weigh_all {H : Type} {P : Program} {e : TypeId} {m : Nat} {d : DataW H} (hm : m ∈ d.weights P e) (l : List (DataW H)) (hd : d ∈ l) : m ∈ DataW.weightsAll P e l := by
  induction l with
  | nil => cases hd
  | cons x l ih =>
    rw [DataW.weightsAll, List.mem_append]
    cases hd with
    | head => exact .inl hm
    | tail _ h => exact .inr (ih h)

theorem fields_ent : ∃ f0 f1, Tryz.prog.underlying 87 = some (.struct #[f0, f1]) ∧ f0.offset = 0 ∧ f1.offset = 1 ∧ f0.type = 9 ∧ f1.type = 9 := ⟨_, _, Tryz.underlying87, rfl, rfl, rfl, rfl⟩

theorem open_ents {H : Type} {enc : TypeId × Value → H} {W : World} {A : Option Addr} {n c : Nat} {d : DataW H} {p : List MemPlace}
    (h : DataW.Trod enc Tryz.prog W 0 (fun _ => true) true 22 (.slice A n c) d p) (hsz : ∀ m ∈ d.weights Tryz.prog 22, m ≤ reachBytes) : ∃ l, Arg W A n c l := by
  obtain ⟨fuel, hf⟩ := h
  obtain ⟨f0, f1, he, o0, o1, t0, t1⟩ := fields_ent
  have c9 : Tryz.prog.cellsOf 9 = 1 := by kernel_rfl
  rcases open_slice_pairs Tryz.underlying22 he (by kernel_rfl) o0 o1 (by rw [t0]; exact c9) (by rw [t1]; exact c9) hf with ⟨hc, hx⟩ | ⟨a, len, cap, m, k, V0, V1, D0, D1, P0, P1, hc, hb, hl, hm, hmm, hx, hi⟩
  · simp only [Value.cells, List.cons.injEq, Value.slice.injEq, and_true] at hc
    obtain ⟨rfl, rfl, rfl⟩ := hc
    exact ⟨[], rfl, Nat.le_refl _, by omega, Es.nil _ _, fun e he => by cases he⟩
  · simp only [Value.cells, List.cons.injEq, Value.slice.injEq, and_true] at hc
    obtain ⟨rfl, rfl, rfl⟩ := hc
    simp only [if_true] at hmm
    subst hmm
    have hd : d = _ := congrArg Prod.fst hx
    have hw1 : (n + (m - n)) * 32 ≤ reachBytes := by
      have hb32 : Tryz.prog.bytesOf 87 = 32 := by kernel_rfl
      refine hsz _ ?_
      rw [hd]
      simp [DataW.weights, Tryz.underlying22, hb32]
    have hreach : reachBytes = 140737488351232 := rfl
    have hstr : ∀ i, i < m → (∃ s, V0 i = .string s ∧ D0 i = .lit (.string s.data.toList)) ∧ ∃ s, V1 i = .string s ∧ D1 i = .lit (.string s.data.toList) := by
      intro i him
      obtain ⟨_, _, h0, h1⟩ := hi i him
      rw [t0] at h0
      rw [t1] at h1
      obtain ⟨s, hs, hd, _⟩ := DataW.trod_string Tryz.underlying9 h0
      obtain ⟨s', hs', hd', _⟩ := DataW.trod_string Tryz.underlying9 h1
      exact ⟨⟨s, by simpa using hs, congrArg Prod.fst hd⟩, ⟨s', by simpa using hs', congrArg Prod.fst hd'⟩⟩
    refine ⟨(List.range n).map fun i => ⟨strOf (V0 i), strOf (V1 i)⟩, by simp, hl, by omega, fun h0 => ⟨a, rfl, ?_, fun j u hu => ?_⟩, fun e he => ?_⟩
    · have := World.block_lt_of_cell? W _ (hi 0 (by simp at h0; omega)).1
      rwa [block_of_add] at this
    · have hlen := (List.getElem?_eq_some_iff.1 hu).1
      rw [ecells_length] at hlen
      simp only [List.length_map, List.length_range] at hlen
      have hat := ecells_at ((List.range n).map fun i => (⟨strOf (V0 i), strOf (V1 i)⟩ : Ent)) (j / 2)
      rw [List.getElem?_map, List.getElem?_range (by omega)] at hat
      obtain ⟨h0, h1, _⟩ := hi (j / 2) (by omega)
      obtain ⟨⟨s, hs, _⟩, ⟨s', hs', _⟩⟩ := hstr (j / 2) (by omega)
      rcases Nat.mod_two_eq_zero_or_one j with hj | hj
      · rw [show j = j / 2 * 2 by omega] at hu ⊢
        rw [hat.1] at hu
        rw [h0, ← hu, hs]
        simp [hs, strOf]
      · rw [show j = j / 2 * 2 + 1 by omega] at hu ⊢
        rw [hat.2] at hu
        rw [h1, ← hu, hs']
        simp [hs', strOf]
    · simp only [List.mem_map, List.mem_range] at he
      obtain ⟨i, hin, rfl⟩ := he
      obtain ⟨⟨s, hs, hd0⟩, ⟨s', hs', hd1⟩⟩ := hstr i (by omega)
      have hmem : DataW.agg [D0 i, D1 i] ∈ (List.range n).map fun i => DataW.agg [D0 i, D1 i] := List.mem_map.2 ⟨i, List.mem_range.2 hin, rfl⟩
      have hall : ∀ q ∈ (DataW.agg [D0 i, D1 i]).weights Tryz.prog 87, q ≤ reachBytes := fun q hq => hsz q (by
        rw [hd]
        simp only [DataW.weights, Tryz.underlying22, List.mem_cons, List.mem_append]
        exact .inr (.inl (weigh_all hq _ hmem)))
      rw [hd0, hd1] at hall
      simp only [DataW.weights, he, List.map_cons, List.map_nil, DataW.weightsEach, List.append_nil, List.mem_append, List.mem_cons, List.not_mem_nil, or_false] at hall
      rw [hs, hs']
      exact ⟨hall _ (.inl rfl), hall _ (.inr rfl)⟩

/-- What is known of an entry that comes in. -/
structure ArgE (x : Ent) : Prop where
  key : x.k.size ≤ 140737488351232
  val : x.v.size ≤ 140737488351232

set_option maxRecDepth 100000 in
theorem open_ent {H : Type} {enc : TypeId × Value → H} {W : World} {base : Nat} {v : Value} {d : DataW H} {p : List MemPlace} (hv : Value.okWide Tryz.prog W .any base 87 v)
    (h : DataW.Trod enc Tryz.prog W 0 (fun _ => true) true 87 v d p) (hsz : ∀ m ∈ d.weights Tryz.prog 87, m ≤ reachBytes) : ∃ x : Ent, v = .agg #[.string x.k, .string x.v] ∧ ArgE x := by
  have c30 : Tryz.prog.cellsOf 87 = 2 := by kernel_rfl
  obtain ⟨c0, c1, y0, y1, m, rfl, rfl, rfl, hy0, hy1⟩ := open_agg2 Tryz.underlying87 (by kernel_rfl) c30 hv h
  obtain ⟨s, hs, hd, _⟩ := DataW.trod_string Tryz.underlying9 hy0
  obtain ⟨s', hs', hd', _⟩ := DataW.trod_string Tryz.underlying9 hy1
  simp only [List.cons.injEq, and_true] at hs hs'
  subst hs hs' hd hd'
  simp only [DataW.weights, Tryz.underlying87, List.map_cons, List.map_nil, DataW.weightsEach, List.append_nil, List.mem_append, List.mem_cons, List.not_mem_nil, or_false] at hsz
  exact ⟨⟨s, s'⟩, rfl, hsz _ (.inl rfl), hsz _ (.inr rfl)⟩

end Go.Proofs.YtelenboncejdaaaGreatDoor

/-
  Entries with room behind them: make and copy; rows of entries that may be written; conditions stand at each.
-/
namespace Go.Proofs.YtelenboncejdaaaGreatDoor
open Go.RowKit Go.Sort
set_option linter.unusedVariables false

theorem made_two (z : Value) (k : Nat) : madeCells #[z, z] k = (List.replicate k z).toArray := by
  apply Array.ext
  · simp [size_madeCells]
  · intro i h1 h2
    simp [madeCells]
    rcases Nat.mod_two_eq_zero_or_one i with h | h <;> simp [h]

/-- make([]Entry, n, c). -/
theorem run_make_room (n c : Nat) (hnc : n ≤ c) (hb : c ≤ 1000000) (w : World) :
    (Instr.makeSlice 22 (.int .i64 (n : Int)) (.int .i64 (c : Int))).run Tryz.prog w =
      .ok (.slice (some ⟨w.heap.size, 0, none⟩) n c) (w.alloc (.cells (List.replicate (c * 2) (.string ByteArray.empty)).toArray 87)) := by
  obtain ⟨i0, hi0, hz0, hz1, hz2⟩ := ent_parts
  have hr := run_make (P := Tryz.prog) w 22 87 i0 _ Tryz.underlying22 hi0 hz0 .i64 .i64 (n : Int) (c : Int) (by omega) (by omega) (by rw [hz2]; omega) (by omega)
  rw [hz1] at hr
  rw [← made_two]
  simpa [Value.cells] using hr

/-- copy(room, b) of as many entries. -/
theorem run_copy_ents (ty : TypeId) {w : World} {g m c d : Nat} {B : Option Addr} {a : List Ent} {cur : Array Value} (hg : w.heap[g]? = some (.cells cur 87 (0, 0))) (hs : Es w B a) (hm : a.length = m) (hfit : m * 2 ≤ cur.size) :
    (Builtin.copy_ #[22, 22] ty #[.slice (some ⟨g, 0, none⟩) m c, .slice B m d]).run Tryz.prog w = .ok (goInt m) (w.setRow g (ecells a ++ cur.toList.drop (m * 2)).toArray) := by
  obtain ⟨i0, hi0, hz0, hz1, hz2⟩ := ent_parts
  have hl2 : (ecells a).length = m * 2 := by rw [ecells_length, hm]
  have hst := run_storeCells_at Tryz.prog g 0 87 (ecells a) 0 cur w hg (by rw [hl2]; omega) (ecells_one a)
  rw [hl2] at hst
  rcases B with _ | ad
  · have h0 : a = [] := by
      rcases Nat.eq_zero_or_pos a.length with h0 | h0
      · exact List.eq_nil_of_length_eq_zero h0
      · obtain ⟨ad, e, _⟩ := hs h0
        cases e
    subst h0
    subst hm
    simp only [ecells] at hst
    simp [Builtin.copy_, run_underlying Tryz.underlying22, Builtin.lenOf, Builtin.firstCells, sizeOf, typeInfo, hi0, storeCells, ecells]
    simp [storeCells] at hst
    exact hst
  · have hcells : ∀ j u, (ecells a)[j]? = some u → w.cell? (ad.add j) = some u := by
      intro j u hu
      have hl : 0 < a.length := by
        have := (List.getElem?_eq_some_iff.1 hu).1
        rw [ecells_length] at this
        omega
      obtain ⟨ad', e, _, hc⟩ := hs hl
      cases e
      exact hc j u hu
    have hl := run_loadCells_list (P := Tryz.prog) w ad (ecells a) hcells
    rw [hl2] at hl
    simp only [List.take_zero, List.nil_append, Nat.zero_add] at hst
    simp [Builtin.copy_, run_underlying Tryz.underlying22, Builtin.lenOf, Builtin.firstCells, sizeOf, typeInfo, hi0, hz1, hl, hst]

theorem wpList_copy_ran {ops : Array Oper} {rest : List Oper} {o : Oper} {a : Act} {w : World} {Q : Exit → Act → World → Prop} (hgd : o.guard = none) (s x : Operand) (t : TypeId)
    (ho : o.op = .call { callee := .builtin .copy, args := #[s, x], argTypes := #[t, t] }) (v u v' : Value) (w' : World) (hs : a.eval s = v) (hx : a.eval x = u)
    (hrun : (Builtin.copy_ #[t, t] o.type #[v, u]).run Tryz.prog w = .ok v' w') (h : wpList Tryz.prog ops Q rest (a.put o.dst v') w') : wpList Tryz.prog ops Q (o :: rest) a w :=
  wpList_plain hgd fun _ hK => by
    unfold Oper.wp execOp
    simp only [ho, resolve, invoke, builtin, Sem.run_bind, Sem.run_pure, Result.andThen_ok, List.map_toArray, List.map_cons, List.map_nil, hs, hx, hrun]
    exact hK _ _ h

/-- A slice of n entries that may be written. -/
def XR (w : World) (A : Option Addr) (n : Nat) : Prop :=
  0 < n → ∃ g, A = some ⟨g, 0, none⟩ ∧ g < w.heap.size ∧ ∀ j, j < n * 2 → (∃ v : ByteArray, w.cell? ⟨g, j, none⟩ = some (.string v)) ∧ w.frozen? ⟨g, j, none⟩ = false
theorem XR.block {w w' : World} {A : Option Addr} {n : Nat} (h : XR w A n) (hb : ∀ g, A = some ⟨g, 0, none⟩ → g < w.heap.size → w'.heap[g]? = w.heap[g]?) (hsz : w.heap.size ≤ w'.heap.size) : XR w' A n := fun h0 => by
  obtain ⟨g, rfl, hlt, hc⟩ := h h0
  refine ⟨g, rfl, by omega, fun j hj => ?_⟩
  obtain ⟨⟨v, hv⟩, hf⟩ := hc j hj
  have hbg := hb g rfl hlt
  exact ⟨⟨v, (World.cell?_of_block (w := w) (a := ⟨g, j, none⟩) hbg).trans hv⟩, (World.frozen?_of_block (w := w) (a := ⟨g, j, none⟩) hbg).trans hf⟩
theorem XR.below {w w' : World} {A : Option Addr} {n : Nat} (h : XR w A n) (hb : Below w.heap.size w w') : XR w' A n := h.block (fun g _ hlt => hb.block g hlt) hb.size
theorem XR.set {w : World} {A : Option Addr} {n : Nat} (h : XR w A n) (p : Addr) (v : ByteArray) : XR (w.setCell p (.string v)) A n := fun h0 => by
  obtain ⟨g, rfl, hlt, hc⟩ := h h0
  refine ⟨g, rfl, by simpa [World.setCell] using hlt, fun j hj => ?_⟩
  obtain ⟨⟨u, hu⟩, hf⟩ := hc j hj
  refine ⟨?_, by simpa using hf⟩
  by_cases hp : p = ⟨g, j, none⟩
  · subst hp
    exact ⟨v, World.cell?_setCell_same _ _ _ hu⟩
  · exact ⟨u, (World.cell?_setCell_other _ _ _ _ hp).trans hu⟩
theorem XR.of_own {w : World} {base n c : Nat} {A : Option Addr} {l : List Ent} (h : Own w base (.slice A n c) l) (hn : l.length = n) : XR w A n := fun h0 => by
  rcases h.2 with ⟨hv, h1⟩ | ⟨g, cap, cur, hv, hb, hh, hnc, _, hs, ht⟩
  · omega
  · cases hv
    refine ⟨g, rfl, lt_of_block hh, fun j hj => ⟨?_, by simp [World.frozen?, hh]⟩⟩
    rw [cell_of_row w g j _ _ _ hh]
    have h2 : cur.toList[j]? = (ecells l)[j]? := by rw [← ht, List.getElem?_take_of_lt (by omega)]
    rw [Array.getElem?_toList] at h2
    rw [h2]
    have hat := ecells_at l (j / 2)
    rw [List.getElem?_eq_getElem (show j / 2 < l.length by omega)] at hat
    rcases Nat.mod_two_eq_zero_or_one j with hj2 | hj2
    · rw [show j = j / 2 * 2 by omega, hat.1]
      exact ⟨_, rfl⟩
    · rw [show j = j / 2 * 2 + 1 by omega, hat.2]
      exact ⟨_, rfl⟩
theorem Own.ge {w : World} {base n c g : Nat} {l : List Ent} (h : Own w base (.slice (some ⟨g, 0, none⟩) n c) l) : base ≤ g := h.at_block g rfl

/-- The block that a slice of the call's own lies in. -/
def obk (A : Option Addr) : Option Nat := A.map (·.block)
theorem Own.obk_ge {w : World} {base n c : Nat} {A : Option Addr} {l : List Ent} (h : Own w base (.slice A n c) l) : ∀ g, obk A = some g → base ≤ g := by
  intro g hg
  rcases h.2 with ⟨hv, _⟩ | ⟨g', cap, cur, hv, hb, _⟩
  · cases hv
    cases hg
  · cases hv
    simp [obk] at hg
    omega
theorem below_set {B : Nat} {a w : World} (h : Below B a w) {p : Addr} (hp : B ≤ p.block) (u : Value) : Below B a (w.setCell p u) :=
  ⟨h.os, h.tape, h.output, by simpa [World.setCell] using h.size, fun i hi => (Below.heap_setCell w p u i (by omega)).trans (h.block i hi)⟩
/-- Three slices that may be written; what was there before them stays. -/
def Kp (w wq : World) (A1 A2 A3 : Option Addr) (m1 m2 m3 : Nat) : Prop := XR wq A1 m1 ∧ XR wq A2 m2 ∧ XR wq A3 m3 ∧ Below w.heap.size w wq
theorem Kp.set {w wq : World} {A1 A2 A3 : Option Addr} {m1 m2 m3 : Nat} (h : Kp w wq A1 A2 A3 m1 m2 m3) {p : Addr} (hp : w.heap.size ≤ p.block) (v : ByteArray) : Kp w (wq.setCell p (.string v)) A1 A2 A3 m1 m2 m3 :=
  ⟨h.1.set p v, h.2.1.set p v, h.2.2.1.set p v, below_set h.2.2.2 hp _⟩

/-- Entries at the head of a block. -/
theorem es_block {w : World} {g : Nat} {a : List Ent} {rest : List Value} {t : TypeId} (hh : w.heap[g]? = some (.cells (ecells a ++ rest).toArray t (0, 0))) : Es w (some ⟨g, 0, none⟩) a := fun _ => ⟨_, rfl, lt_of_block hh, fun j u hu => by
  have e : ((⟨g, 0, none⟩ : Addr).add j) = ⟨g, j, none⟩ := by unfold Addr.add; split <;> simp_all
  rw [e, cell_of_row w g j _ _ _ hh]
  have hj := (List.getElem?_eq_some_iff.1 hu).1
  rw [List.getElem?_toArray, List.getElem?_append_left hj]
  exact hu⟩
theorem room_cell {w : World} {g k j : Nat} {a : List Ent} {t : TypeId} (hh : w.heap[g]? = some (.cells (ecells a ++ List.replicate k (Value.string ByteArray.empty)).toArray t (0, 0))) (h1 : a.length * 2 ≤ j) (h2 : j < a.length * 2 + k) : w.cell? ⟨g, j, none⟩ = some (.string ByteArray.empty) := by
  rw [cell_of_row w g j _ _ _ hh, List.getElem?_toArray, List.getElem?_append_right (by rw [ecells_length]; omega), ecells_length, List.getElem?_replicate, if_pos (by omega)]

end Go.Proofs.YtelenboncejdaaaGreatDoor

/-
  The contracts of the reference's With and Without over sorted lists: the list with an entry, the list without a key; conditions: the slice can be read, it is small and sorted.
-/
namespace Go.Proofs.YtelenboncejdaaaGreatDoor
open Go.RowKit Go.Sort
set_option linter.unusedVariables false

theorem del_snoc (t : List Ent) (x : Ent) (key : ByteArray) (hs : Sorted (t ++ [x])) : del (t ++ [x]) key = if x.k = key then del t key else del t key ++ [x] := by
  have hlast : ∀ e ∈ t, kl e.k x.k := fun e he => (List.pairwise_append.1 hs).2.2 e he x (by simp)
  unfold del
  rw [lows_append, highs_append]
  by_cases h : x.k = key
  · rw [if_pos h]
    subst h
    rw [lows_one, highs_one]
    simp
  · rw [if_neg h]
    rcases Decidable.em (kl x.k key) with h1 | h1
    · have hl : lows [x] key = [x] := filter_all fun e he => by rw [List.mem_singleton.1 he]; exact decide_eq_true h1
      have hh : highs [x] key = [] := filter_none fun e he => by rw [List.mem_singleton.1 he]; exact decide_eq_false (kl_asymm h1)
      have ht : highs t key = [] := filter_none fun e he => decide_eq_false fun hk => kl_irrefl _ (kl_trans hk (kl_trans (hlast e he) h1))
      rw [hl, hh, ht]
      simp
    · rcases Decidable.em (kl key x.k) with h2 | h2
      · have hl : lows [x] key = [] := filter_none fun e he => by rw [List.mem_singleton.1 he]; exact decide_eq_false h1
        have hh : highs [x] key = [x] := filter_all fun e he => by rw [List.mem_singleton.1 he]; exact decide_eq_true h2
        rw [hl, hh]
        simp
      · exact absurd (kl_tri h1 h2) h
theorem sorted_take {l : List Ent} (hs : Sorted l) (k : Nat) : Sorted (l.take k) := List.Pairwise.sublist (List.take_sublist k l) hs

/-- How far the reference's With has come. -/
def Prog (t : List Ent) (e : Ent) (done : Bool) (out : List Ent) : Prop :=
  (done = true → (∃ y ∈ t, ¬ kl y.k e.k) ∧ out = put t e) ∧ (done = false → (∀ y ∈ t, kl y.k e.k) ∧ out = t)
theorem Prog.low {t : List Ent} {e x : Ent} (h : Prog t e false t) (hx : kl x.k e.k) : Prog (t ++ [x]) e false (t ++ [x]) :=
  ⟨fun h => (by cases h), fun _ => ⟨fun y hy => by
    rcases List.mem_append.1 hy with hy | hy
    · exact (h.2 rfl).1 y hy
    · rw [List.mem_singleton.1 hy]; exact hx, rfl⟩⟩
theorem put_low {t : List Ent} {e : Ent} (h : ∀ y ∈ t, kl y.k e.k) : put t e = t ++ [e] := by
  have hl : lows t e.k = t := filter_all fun y hy => decide_eq_true (h y hy)
  have hh : highs t e.k = [] := filter_none fun y hy => decide_eq_false (kl_asymm (h y hy))
  unfold put
  rw [hl, hh]
theorem Prog.eq {t : List Ent} {e x : Ent} (h : Prog t e false t) (hx : x.k = e.k) : Prog (t ++ [x]) e true (t ++ [e]) :=
  ⟨fun _ => ⟨⟨x, by simp, by rw [hx]; exact kl_irrefl _⟩, by
    have hl := (h.2 rfl).1
    have h1 : lows t e.k = t := filter_all fun y hy => decide_eq_true (hl y hy)
    have h2 : highs t e.k = [] := filter_none fun y hy => decide_eq_false (kl_asymm (hl y hy))
    have h3 : lows [x] e.k = [] := by rw [← hx]; exact lows_one x
    have h4 : highs [x] e.k = [] := by rw [← hx]; exact highs_one x
    unfold put
    rw [lows_append, highs_append, h1, h2, h3, h4]
    simp⟩, fun h => by cases h⟩
theorem Prog.high {t : List Ent} {e x : Ent} (h : Prog t e false t) (hx : kl e.k x.k) : Prog (t ++ [x]) e true (t ++ [e] ++ [x]) :=
  ⟨fun _ => ⟨⟨x, by simp, kl_asymm hx⟩, by
    have hl := (h.2 rfl).1
    have h1 : lows t e.k = t := filter_all fun y hy => decide_eq_true (hl y hy)
    have h2 : highs t e.k = [] := filter_none fun y hy => decide_eq_false (kl_asymm (hl y hy))
    have h3 : lows [x] e.k = [] := filter_none fun y hy => by rw [List.mem_singleton.1 hy]; exact decide_eq_false (kl_asymm hx)
    have h4 : highs [x] e.k = [x] := filter_all fun y hy => by rw [List.mem_singleton.1 hy]; exact decide_eq_true hx
    unfold put
    rw [lows_append, highs_append, h1, h2, h3, h4]
    simp⟩, fun h => by cases h⟩
theorem Prog.more {t : List Ent} {e x : Ent} {out : List Ent} (h : Prog t e true out) (hs : Sorted (t ++ [x])) : kl e.k x.k ∧ Prog (t ++ [x]) e true (out ++ [x]) := by
  obtain ⟨⟨y, hy, hyk⟩, rfl⟩ := h.1 rfl
  have hyx : kl y.k x.k := (List.pairwise_append.1 hs).2.2 y hy x (by simp)
  have hx : kl e.k x.k := by
    rcases Decidable.em (kl e.k y.k) with h1 | h1
    · exact kl_trans h1 hyx
    · rw [← kl_tri hyk h1]; exact hyx
  refine ⟨hx, fun _ => ⟨⟨x, by simp, kl_asymm hx⟩, ?_⟩, fun h => by cases h⟩
  have h3 : lows [x] e.k = [] := filter_none fun y hy => by rw [List.mem_singleton.1 hy]; exact decide_eq_false (kl_asymm hx)
  have h4 : highs [x] e.k = [x] := filter_all fun y hy => by rw [List.mem_singleton.1 hy]; exact decide_eq_true hx
  unfold put
  rw [lows_append, highs_append, h3, h4]
  simp

/-- What the reference's Without answers. -/
def RefOut (w : World) (l : List Ent) (key : ByteArray) (e : Ending) (w' : World) : Prop :=
  ∃ v : Value, e = .returned (.tuple #[v, .bool (decide ((del l key).length < l.length))]) ∧ Own w' w.heap.size v (del l key) ∧ Below w.heap.size w w'

theorem del_len (l : List Ent) (key : ByteArray) : (del l key).length ≤ l.length := by
  unfold del lows highs
  rw [List.length_append]
  induction l with
  | nil => simp
  | cons x l ih =>
    simp only [List.filter_cons]
    by_cases h1 : kl x.k key
    · have h2 := kl_asymm h1
      simp [h1, h2]; omega
    · by_cases h2 : kl key x.k
      · simp [h1, h2]; omega
      · simp [h1, h2]; omega

theorem Own.drewN {w : World} {b : Nat} {v : Value} {l : List Ent} (h : Own w b v l) (n : Nat) : Own (w.drewN n) b v l := h
theorem append_one {a W : World} {base : Nat} {v : Value} {out : List Ent} (hown : Own W base v out) (hb : Below base a W) (hs : base ≤ W.heap.size) (y : Ent) (hlen : out.length ≤ 1000) :
    ∃ v' w2, (Builtin.append_ #[22, 22] 22 #[v, .slice (some ⟨W.heap.size, 0, none⟩) 1 1]).run Tryz.prog (W.alloc (.cells #[.string y.k, .string y.v] 87)) = .ok v' w2 ∧
      Own w2 base v' (out ++ [y]) ∧ Below base a w2 ∧ base ≤ w2.heap.size := by
  have hbz : Below W.heap.size W (W.alloc (.cells #[.string y.k, .string y.v] 87)) := (Below.refl _ _).alloc (Nat.le_refl _) _
  have hsz : base ≤ (W.alloc (.cells #[.string y.k, .string y.v] 87)).heap.size := Nat.le_trans hs hbz.size
  obtain ⟨v', w2, hrun, hown2, hg2⟩ := run_append_ents 22 (hown.below hbz) 1 1 (box_es W y 87) rfl (by omega) hsz
  exact ⟨v', w2, hrun, hown2, (hown.below hbz).grow_below (hb.trans (hbz.mono hs)) hsz hg2, Nat.le_trans hsz hg2.size⟩

/-- What the reference's With answers. -/
def RefWith (w : World) (l : List Ent) (x : Ent) (e : Ending) (w' : World) : Prop :=
  ∃ v : Value, e = .returned v ∧ Own w' w.heap.size v (put l x) ∧ Below w.heap.size w w'

/-- How far the loop has come. -/
def At (l : List Ent) (e : Ent) (b : Nat) (w0 wr : World) (k : Nat) (s6 v : Value) : Prop :=
  ∃ f out, s6 = .bool f ∧ Own wr b v out ∧ Prog (l.take k) e f out ∧ out.length ≤ k + 1 ∧ Below b w0 wr ∧ b ≤ wr.heap.size

end Go.Proofs.YtelenboncejdaaaGreatDoor

/-
  Lists of structs in memory, whatever the struct: elements as cells (a function gives the cells of one), a slice that reads as such a list, a row of the call's own, append; conditions stand at each.
-/
namespace Go.Proofs.YtelenboncejdaaaGreatDoor
open Go.RowKit Go.Sort
set_option linter.unusedVariables false

/-- What the cells of an element must be: k of them, each one cell. -/
structure Enc {α : Type} (f : α → List Value) (k : Nat) : Prop where
  len : ∀ x, (f x).length = k
  one : ∀ x, ∀ u ∈ f x, u.oneCell' = true

section
variable {α : Type} {f : α → List Value} {k : Nat}
theorem Enc.flen (h : Enc f k) (l : List α) : (l.flatMap f).length = l.length * k := by
  induction l with
  | nil => simp
  | cons x l ih => rw [List.flatMap_cons, List.length_append, h.len, ih, List.length_cons, Nat.add_mul]; omega
theorem Enc.fone (h : Enc f k) (l : List α) : ∀ u ∈ l.flatMap f, u.oneCell' = true := by
  intro u hu
  obtain ⟨x, _, hx⟩ := List.mem_flatMap.1 hu
  exact h.one x u hx
theorem Enc.at_ (h : Enc f k) (l : List α) (i j : Nat) (x : α) (hx : l[i]? = some x) (hj : j < k) : (l.flatMap f)[i * k + j]? = (f x)[j]? := by
  induction l generalizing i with
  | nil => simp at hx
  | cons y l ih =>
    rw [List.flatMap_cons]
    cases i with
    | zero =>
      simp only [List.getElem?_cons_zero, Option.some.injEq] at hx
      subst hx
      rw [Nat.zero_mul, Nat.zero_add, List.getElem?_append_left (by rw [h.len]; exact hj)]
    | succ i =>
      rw [List.getElem?_append_right (by rw [h.len, Nat.add_mul]; omega), h.len, show (i + 1) * k + j - k = i * k + j by rw [Nat.add_mul]; omega]
      exact ih i (by simpa using hx)

/-- The slice at A reads as the elements l. -/
def Ls (f : α → List Value) (w : World) (A : Option Addr) (l : List α) : Prop :=
  0 < l.length → ∃ ad, A = some ad ∧ ad.block < w.heap.size ∧ ∀ j u, (l.flatMap f)[j]? = some u → w.cell? (ad.add j) = some u
theorem Ls.nil (w : World) (A : Option Addr) : Ls f w A [] := fun h => absurd h (by simp)
theorem Ls.below {w w' : World} {A : Option Addr} {l : List α} (h : Ls f w A l) (hb : Below w.heap.size w w') : Ls f w' A l := fun h0 => by
  obtain ⟨ad, e, hlt, hc⟩ := h h0
  exact ⟨ad, e, Nat.lt_of_lt_of_le hlt hb.size, fun j u hu => (hb.cell (by rw [block_of_add]; exact hlt)).trans (hc j u hu)⟩
theorem Ls.at_ {w : World} {A : Option Addr} {l : List α} (he : Enc f k) (h : Ls f w A l) {i : Nat} (hi : i < l.length) :
    ∃ ad x, A = some ad ∧ l[i]? = some x ∧ ad.block < w.heap.size ∧ ∀ j u, j < k → (f x)[j]? = some u → w.cell? ((ad.add (i * k)).add j) = some u := by
  obtain ⟨ad, e, hlt, hc⟩ := h (by omega)
  refine ⟨ad, l[i], e, List.getElem?_eq_getElem hi, hlt, fun j u hj hu => ?_⟩
  rw [add_of_add]
  exact hc _ _ ((he.at_ l i j _ (List.getElem?_eq_getElem hi) hj).trans hu)

/-- A list in a row of the call's own. -/
def OwnL (f : α → List Value) (t : TypeId) (k : Nat) (w : World) (base : Nat) (v : Value) (l : List α) : Prop := w.ownsRow base t k v l.length (l.flatMap f)
theorem OwnL.form {t : TypeId} {w : World} {base : Nat} {v : Value} {l : List α} (h : OwnL f t k w base v l) : ∃ A c, v = .slice A l.length c ∧ l.length ≤ c ∧ Ls f w A l := by
  rcases h.2 with ⟨rfl, h0⟩ | ⟨g, cap, cur, rfl, hg, hh, hc, _⟩
  · exact ⟨none, 0, by rw [h0], by omega, fun hl => by omega⟩
  · exact ⟨_, _, rfl, hc, fun _ => ⟨_, rfl, lt_of_block hh, h.cells (g := g) rfl⟩⟩
theorem OwnL.at_block {t : TypeId} {w : World} {base : Nat} {v : Value} {l : List α} (h : OwnL f t k w base v l) : ∀ g, v.ownBlock = some g → base ≤ g := by
  intro g hg
  rcases h.2 with ⟨rfl, h0⟩ | ⟨g', cap, cur, rfl, hb, _⟩
  · simp [Value.ownBlock] at hg
  · have : g' = g := by simpa [Value.ownBlock] using hg
    omega
theorem OwnL.keep {t : TypeId} {w w' : World} {base : Nat} {v : Value} {l : List α} (h : OwnL f t k w base v l) (hb : ∀ g, v.ownBlock = some g → g < w.heap.size → w'.heap[g]? = w.heap[g]?) : OwnL f t k w' base v l := by
  refine ⟨h.1, ?_⟩
  rcases h.2 with hv | ⟨g, cap, cur, h1, h2, h3, h4⟩
  · exact .inl hv
  · refine .inr ⟨g, cap, cur, h1, h2, (hb g ?_ (lt_of_block h3)).trans h3, h4⟩
    rw [h1]
    rfl
theorem OwnL.below {t : TypeId} {w w' : World} {base : Nat} {v : Value} {l : List α} (h : OwnL f t k w base v l) (hb : Below w.heap.size w w') : OwnL f t k w' base v l := h.keep fun g _ hg => hb.block g hg
theorem OwnL.mono {t : TypeId} {w : World} {b b' : Nat} {v : Value} {l : List α} (h : OwnL f t k w b v l) (hb : b' ≤ b) : OwnL f t k w b' v l := by
  refine ⟨h.1, ?_⟩
  rcases h.2 with hv | ⟨g, cap, cur, h1, h2, h3⟩
  · exact .inl hv
  · exact .inr ⟨g, cap, cur, h1, Nat.le_trans hb h2, h3⟩
theorem OwnL.nil_ (t : TypeId) (w : World) (base : Nat) : OwnL f t k w base (.slice none 0 0) ([] : List α) := ⟨by simp, .inl ⟨rfl, rfl⟩⟩
theorem OwnL.lt {t : TypeId} {w : World} {base : Nat} {v : Value} {l : List α} (h : OwnL f t k w base v l) : ∀ g, v.ownBlock = some g → g < w.heap.size := by
  intro g hg
  rcases h.2 with ⟨rfl, h0⟩ | ⟨g', cap, cur, rfl, hb, hh, _⟩
  · simp [Value.ownBlock] at hg
  · have : g' = g := by simpa [Value.ownBlock] using hg
    subst this
    exact lt_of_block hh
theorem OwnL.grow_below {t : TypeId} {a w w' : World} {base : Nat} {v : Value} {l : List α} (h : OwnL f t k w base v l) (hb : Below base a w) (hs : base ≤ w.heap.size) (hg : w.grownBy w' v.ownBlock) : Below base a w' :=
  hb.grown hg hs (fun k hk => h.at_block k hk)

/-- append(v, x): onto a row of the call's own. -/
theorem run_append_one (he : Enc f k) (ts t ty : TypeId) (z : Value) (by_ : Nat) (hu : ∃ d, Tryz.prog.underlying ts = some d ∧ d = .slice t) (hi : (Tryz.prog.info? t).map (fun i => (i.zero, i.size, i.bytes)) = some (some z, k, by_)) (hz : z.cells.size = k) (hk : 0 < k) (hk8 : k ≤ 8) (hby : by_ ≤ 1000)
    {w : World} {base : Nat} {v : Value} {xs : List α} (hown : OwnL f t k w base v xs) (x : α) (hb : xs.length ≤ 1000000) (hbase : base ≤ w.heap.size) :
    ∃ v' w', (Builtin.append_ #[ts, ts] ty #[v, .slice (some ⟨w.heap.size, 0, none⟩) 1 1]).run Tryz.prog (w.alloc (.cells (f x).toArray t)) = .ok v' w' ∧ OwnL f t k w' base v' (xs ++ [x]) ∧ (w.alloc (.cells (f x).toArray t)).grownBy w' v.ownBlock := by
  obtain ⟨i0, hi0, hz0, hz1, hz2⟩ := info_parts hi
  obtain ⟨d, hu, rfl⟩ := hu
  have hbz : Below w.heap.size w (w.alloc (.cells (f x).toArray t)) := (Below.refl _ _).alloc (Nat.le_refl _) _
  have hcells : ∀ j u, (f x)[j]? = some u → (w.alloc (.cells (f x).toArray t)).cell? ((⟨w.heap.size, 0, none⟩ : Addr).add j) = some u := fun j u h => new_row w (f x).toArray t j u (by simpa using h)
  obtain ⟨v', w', h1, h2, h3, _⟩ := run_append_own (P := Tryz.prog) (w.alloc (.cells (f x).toArray t)) base ts ty t i0 z k by_ hu hi0 hz0 hz1 hz2 hz hk v xs.length (xs.flatMap f) (hown.below hbz) ⟨w.heap.size, 0, none⟩ 1 1 (f x) (by rw [he.len]; omega) hcells (he.one x) (by simp only [maxLen]; omega) (by
    have : (xs.length + 1) * by_ ≤ 1000001 * 1000 := Nat.mul_le_mul (by omega) hby
    omega) (Nat.le_trans hbase hbz.size)
  refine ⟨v', w', h1, ?_, h3⟩
  unfold OwnL
  rw [List.flatMap_append, List.length_append]
  simpa using h2
end

/-- What a box was made with stays there. -/
theorem box_at {w w' : World} {cs : Array Value} {t : TypeId} (hb : Below (w.alloc (.cells cs t)).heap.size (w.alloc (.cells cs t)) w') (j : Nat) (u : Value) (h : cs[j]? = some u) : w'.cell? ⟨w.heap.size, j, none⟩ = some u := by
  refine (hb.cell (by simp)).trans ?_
  rw [World.cell?_alloc_mark]
  exact h
theorem box_lt {w w' : World} {x : Obj} (hb : Below (w.alloc x).heap.size (w.alloc x) w') : w.heap.size < w'.heap.size := by
  have := hb.size
  simp at this
  omega

end Go.Proofs.YtelenboncejdaaaGreatDoor

/-
  Lists of strings in memory: a slice of strings that can be read, a row of the call's own, append, a slice of strings as an argument; conditions stand at each.
-/
namespace Go.Proofs.YtelenboncejdaaaGreatDoor
open Go.RowKit Go.Sort Go.ChangeShapes Go.WideShapes Go.Joins Go.Deep
set_option linter.unusedVariables false

/-- A string as cells. -/
def strC (s : ByteArray) : List Value := [.string s]
theorem strC_enc : Enc strC 1 := ⟨fun _ => rfl, fun x u hu => by
  simp only [strC, List.mem_singleton] at hu
  subst hu
  rfl⟩
/-- The slice at A reads as the strings l. -/
def Ss (w : World) (A : Option Addr) (l : List ByteArray) : Prop := Ls strC w A l
theorem Ss.below {w w' : World} {A : Option Addr} {l : List ByteArray} (h : Ss w A l) (hb : Below w.heap.size w w') : Ss w' A l := Ls.below h hb
theorem Ss.at_ {w : World} {A : Option Addr} {l : List ByteArray} (h : Ss w A l) {i : Nat} (hi : i < l.length) :
    ∃ ad x, A = some ad ∧ l[i]? = some x ∧ ad.block < w.heap.size ∧ w.cell? (ad.add i) = some (.string x) := by
  obtain ⟨ad, x, e, hx, hlt, hc⟩ := Ls.at_ strC_enc h hi
  have := hc 0 _ (by omega) rfl
  rw [add_of_add, Nat.mul_one, Nat.add_zero] at this
  exact ⟨ad, x, e, hx, hlt, this⟩
theorem Ss.take {w : World} {A : Option Addr} {l : List ByteArray} (h : Ss w A l) (i : Nat) : Ss w A (l.take i) := fun h0 => by
  obtain ⟨ad, e, hlt, hc⟩ := h (by rw [List.length_take] at h0; omega)
  refine ⟨ad, e, hlt, fun j u hu => hc j u ?_⟩
  have e1 : ∀ m : List ByteArray, m.flatMap strC = m.map Value.string := fun m => by
    induction m with
    | nil => rfl
    | cons x m ih => rw [List.flatMap_cons, ih]; rfl
  rw [e1, List.map_take] at hu
  rw [e1]
  have hj := (List.getElem?_eq_some_iff.1 hu).1
  rw [List.length_take] at hj
  rwa [List.getElem?_take_of_lt (by omega)] at hu

/-- Strings in a row of the call's own. -/
def OwnS (w : World) (base : Nat) (v : Value) (l : List ByteArray) : Prop := OwnL strC 9 1 w base v l
theorem OwnS.form {w : World} {base : Nat} {v : Value} {l : List ByteArray} (h : OwnS w base v l) : ∃ A c, v = .slice A l.length c ∧ l.length ≤ c ∧ Ss w A l := OwnL.form h
theorem OwnS.below {w w' : World} {base : Nat} {v : Value} {l : List ByteArray} (h : OwnS w base v l) (hb : Below w.heap.size w w') : OwnS w' base v l := OwnL.below h hb

theorem strinfo : (Tryz.prog.info? 9).map (fun i => (i.zero, i.size, i.bytes)) = some (some (.string ByteArray.empty), 1, 16) := by kernel_rfl

/-- append(v, s): onto a row of the call's own. -/
theorem run_append_str {w : World} {base : Nat} {v : Value} {xs : List ByteArray} (ty : TypeId) (hown : OwnS w base v xs) (x : ByteArray) (hb : xs.length ≤ 1000000) (hbase : base ≤ w.heap.size) :
    ∃ v' w', (Builtin.append_ #[176, 176] ty #[v, .slice (some ⟨w.heap.size, 0, none⟩) 1 1]).run Tryz.prog (w.alloc (.cells #[.string x] 9)) = .ok v' w' ∧ OwnS w' base v' (xs ++ [x]) ∧ (w.alloc (.cells #[.string x] 9)).grownBy w' v.ownBlock :=
  run_append_one strC_enc 176 9 ty (.string ByteArray.empty) 16 ⟨_, Tryz.underlying176, rfl⟩ strinfo rfl (by omega) (by omega) (by omega) hown x hb hbase

/-- A box of strings that was laid by a literal reads as them. -/
theorem ss_new (w : World) (l : List ByteArray) : Ss (w.alloc (.cells (l.map Value.string).toArray 9)) (some ⟨w.heap.size, 0, none⟩) l := fun _ => ⟨_, rfl, by simp, fun j u hu => new_row w _ _ j u (by
  have e1 : ∀ m : List ByteArray, m.flatMap strC = m.map Value.string := fun m => by
    induction m with
    | nil => rfl
    | cons x m ih => rw [List.flatMap_cons, ih]; rfl
  rw [e1] at hu
  exact hu)⟩

/-- A slice of structs as a list. -/
theorem open_list {α : Type} {f : α → List Value} {k : Nat} {ok : α → Prop} (he : Enc f k) (hk : 0 < k) {ts e : TypeId} {by_ : Nat} (hu : Tryz.prog.underlying ts = some (.slice e)) (ck : Tryz.prog.cellsOf e = k) (hby : Tryz.prog.bytesOf e = by_) (hby0 : 0 < by_)
    {H : Type} {enc : TypeId × Value → H} {W : World} {fuel : Nat} {A : Option Addr} {n c : Nat} {x : DataW H × List MemPlace}
    (elem : ∀ fuel cs (y : DataW H × List MemPlace), DataW.trod enc Tryz.prog W 0 (fun _ => true) true fuel e cs = some y → (∀ m ∈ y.1.weights Tryz.prog e, m ≤ reachBytes) → ∃ z : α, cs = f z ∧ ok z)
    (h : DataW.trod enc Tryz.prog W 0 (fun _ => true) true fuel ts [.slice A n c] = some x) (hsz : ∀ m ∈ x.1.weights Tryz.prog ts, m ≤ reachBytes) :
    ∃ l : List α, l.length = n ∧ n ≤ c ∧ n ≤ 140737488351232 ∧ Ls f W A l ∧ ∀ z ∈ l, ok z := by
  have hreach : reachBytes = 140737488351232 := rfl
  rcases open_slice hu h with ⟨hc, hx⟩ | ⟨a, len, cap, m, q, D, Pl, hc, hb, hl, hm, hmm, rfl, hi⟩
  · simp only [List.cons.injEq, Value.slice.injEq, and_true] at hc
    obtain ⟨rfl, rfl, rfl⟩ := hc
    exact ⟨[], rfl, Nat.le_refl _, by omega, Ls.nil _ _, fun z hz => by cases hz⟩
  · simp only [List.cons.injEq, Value.slice.injEq, and_true] at hc
    obtain ⟨rfl, rfl, rfl⟩ := hc
    simp only [if_true] at hmm
    subst hmm
    have hw1 : (n + (m - n)) * by_ ≤ reachBytes := by
      refine hsz _ ?_
      simp [DataW.weights, hu, hby]
    have hw2 : n ≤ 140737488351232 := by
      have : n + (m - n) ≤ (n + (m - n)) * by_ := Nat.le_mul_of_pos_right _ hby0
      omega
    have each : ∀ i, i < n → ∃ z : α, (∀ j u, (f z)[j]? = some u → W.cell? (a.add (i * k + j)) = some u) ∧ ok z := by
      intro i hin
      obtain ⟨cs', h1, h2⟩ := hi i (by omega)
      rw [ck] at h1
      obtain ⟨_, hlen, hcell⟩ := World.cells?_some h1
      have hmem : D i ∈ (List.range n).map D := List.mem_map.2 ⟨i, List.mem_range.2 hin, rfl⟩
      obtain ⟨z, rfl, hz⟩ := elem q cs' (D i, Pl i) h2 (fun m' hm' => hsz m' (by
        simp only [DataW.weights, hu, List.mem_cons, List.mem_append]
        exact .inr (.inl (weigh_all hm' _ hmem))))
      refine ⟨z, fun j u hj => ?_, hz⟩
      have hjk : j < k := by
        have := (List.getElem?_eq_some_iff.1 hj).1
        rwa [he.len] at this
      rw [← add_add, hcell j hjk, hj]
    have build : ∀ r, r ≤ n → ∃ l : List α, l.length = r ∧ ∀ i z, l[i]? = some z → (∀ j u, (f z)[j]? = some u → W.cell? (a.add (i * k + j)) = some u) ∧ ok z := by
      intro r
      induction r with
      | zero => exact fun _ => ⟨[], rfl, fun i z hz => by simp at hz⟩
      | succ r ih =>
        intro hr
        obtain ⟨l, hl1, hl2⟩ := ih (by omega)
        obtain ⟨z, hz⟩ := each r (by omega)
        refine ⟨l ++ [z], by simp [hl1], fun i y hy => ?_⟩
        rcases Nat.lt_or_ge i r with hi' | hi'
        · rw [List.getElem?_append_left (by omega)] at hy
          exact hl2 i y hy
        · have hlt := (List.getElem?_eq_some_iff.1 hy).1
          rw [List.length_append, List.length_singleton, hl1] at hlt
          have : i = r := by omega
          subst this
          rw [List.getElem?_append_right (by omega), hl1, Nat.sub_self] at hy
          simp only [List.getElem?_cons_zero, Option.some.injEq] at hy
          subst hy
          exact hz
    obtain ⟨l, hl1, hl2⟩ := build n (Nat.le_refl _)
    refine ⟨l, hl1, hl, hw2, fun h0 => ⟨a, rfl, ?_, fun j u hu' => ?_⟩, fun z hz => ?_⟩
    · obtain ⟨z, hz⟩ : ∃ z, l[0]? = some z := ⟨_, List.getElem?_eq_getElem h0⟩
      obtain ⟨u, hu0⟩ : ∃ u, (f z)[0]? = some u := ⟨_, List.getElem?_eq_getElem (by rw [he.len]; exact hk)⟩
      have := World.block_lt_of_cell? W _ ((hl2 0 z hz).1 0 u hu0)
      rwa [block_of_add] at this
    · have hlen := (List.getElem?_eq_some_iff.1 hu').1
      rw [he.flen] at hlen
      have hdm := Nat.div_add_mod j k
      have hmod := Nat.mod_lt j hk
      have hi' : j / k < l.length := Nat.div_lt_of_lt_mul (by rw [Nat.mul_comm]; exact hlen)
      obtain ⟨z, hz⟩ : ∃ z, l[j / k]? = some z := ⟨_, List.getElem?_eq_getElem hi'⟩
      have hj : j = j / k * k + j % k := by rw [Nat.mul_comm]; omega
      rw [hj, he.at_ l (j / k) (j % k) z hz hmod] at hu'
      rw [hj]
      exact (hl2 _ z hz).1 _ u hu'
    · obtain ⟨i, hi'⟩ := List.getElem?_of_mem hz
      exact (hl2 i z hi').2

/-- What is known of a slice of strings that comes in. -/
structure ArgS (W : World) (A : Option Addr) (n c : Nat) (l : List ByteArray) : Prop where
  len : l.length = n
  cap : n ≤ c
  small : n ≤ 140737488351232
  ss : Ss W A l
  strs : ∀ s ∈ l, s.size ≤ 140737488351232

theorem elemS {H : Type} {enc : TypeId × Value → H} {W : World} (fuel : Nat) (cs : List Value) (y : DataW H × List MemPlace) (h : DataW.trod enc Tryz.prog W 0 (fun _ => true) true fuel 9 cs = some y)
    (hsz : ∀ m ∈ y.1.weights Tryz.prog 9, m ≤ reachBytes) : ∃ z : ByteArray, cs = strC z ∧ z.size ≤ 140737488351232 := by
  obtain ⟨s, hs, hd, _⟩ := DataW.trod_string Tryz.underlying9 h
  refine ⟨s, by simpa [strC] using hs, ?_⟩
  rw [show y.1 = _ from congrArg Prod.fst hd] at hsz
  simp only [DataW.weights, List.mem_cons, List.not_mem_nil, or_false] at hsz
  exact hsz _ rfl

theorem open_strs {H : Type} {enc : TypeId × Value → H} {W : World} {A : Option Addr} {n c : Nat} {d : DataW H} {p : List MemPlace}
    (h : DataW.Trod enc Tryz.prog W 0 (fun _ => true) true 176 (.slice A n c) d p) (hsz : ∀ m ∈ d.weights Tryz.prog 176, m ≤ reachBytes) : ∃ l, ArgS W A n c l := by
  obtain ⟨fuel, hf⟩ := h
  have c9 : Tryz.prog.cellsOf 9 = 1 := by kernel_rfl
  have b9 : Tryz.prog.bytesOf 9 = 16 := by kernel_rfl
  obtain ⟨l, h1, h2, h3, h4, h5⟩ := open_list (ok := fun z => z.size ≤ 140737488351232) strC_enc (by omega) Tryz.underlying176 c9 b9 (by omega) elemS hf hsz
  exact ⟨l, h1, h2, h3, h4, h5⟩

end Go.Proofs.YtelenboncejdaaaGreatDoor
