/-
  Nodes, without a program: what is known of a kid, when a leaf and a branch can be, what is known of a branch; no condition beyond those stated.
-/
import Derived.Test.YtkooaechcbopnaaPairSmall
namespace Go.Proofs.Ytkooaechcbopnaa
open Go.RowKit Go.Sort
set_option linter.unusedVariables false

/-- What is known of a kid. -/
structure KR where
  h : Nat
  lo : ByteArray
  hi : ByteArray
  full : Bool
  enough : Bool
def KR.zero : KR := ⟨0, ByteArray.empty, ByteArray.empty, true, false⟩

/-- An entry that may stand in a leaf; a leaf that can be. -/
def okE (e : Ent) : Bool := decide (keyNo e.k = 0) && decide (valNo e.v = 0)
def okLeaf (l : List Ent) : Bool := decide (1 ≤ l.length) && decide (l.length ≤ 4) && l.all okE && decide (Sorted l)
theorem okLeaf_len {l : List Ent} (h : okLeaf l = true) : 1 ≤ l.length ∧ l.length ≤ 4 := by
  simp only [okLeaf, Bool.and_eq_true, decide_eq_true_eq] at h
  exact ⟨h.1.1.1, h.1.1.2⟩
theorem okLeaf_short {l : List Ent} (h : l.length < 1) : okLeaf l = false := by
  unfold okLeaf
  rw [decide_eq_false (show ¬ 1 ≤ l.length by omega)]
  rfl
theorem okLeaf_long {l : List Ent} (h : 4 < l.length) : okLeaf l = false := by
  unfold okLeaf
  rw [decide_eq_false (show ¬ l.length ≤ 4 by omega)]
  simp
theorem okLeaf_bad {l : List Ent} {e : Ent} (he : e ∈ l) (h : okE e = false) : okLeaf l = false := by
  unfold okLeaf
  rw [show l.all okE = false from Bool.eq_false_iff.2 fun hh => by rw [List.all_eq_true.1 hh e he] at h; cases h]
  simp
theorem okLeaf_wild {l : List Ent} (h : ¬ Sorted l) : okLeaf l = false := by
  unfold okLeaf
  rw [decide_eq_false h]
  simp
theorem okLeaf_good {l : List Ent} (h1 : 1 ≤ l.length) (h4 : l.length ≤ 4) (h : ∀ e ∈ l, okE e = true) : okLeaf l = decide (Sorted l) := by
  unfold okLeaf
  rw [decide_eq_true h1, decide_eq_true h4, List.all_eq_true.2 h]
  simp
theorem okLeaf_sorted {l : List Ent} (h : okLeaf l = true) : Sorted l := by
  simp only [okLeaf, Bool.and_eq_true, decide_eq_true_eq] at h
  exact h.2

/-- The heights are alike and the keys rise from kid to kid. -/
def adjK : List KR → Bool
  | a :: b :: l => decide (a.h = b.h) && decide (kl a.hi b.lo) && adjK (b :: l)
  | _ => true
def okBr (l : List KR) : Bool := decide (2 ≤ l.length) && decide (l.length ≤ 6) && adjK l
theorem adjK_iff : ∀ l : List KR, adjK l = true ↔ ∀ (j : Nat) (a b : KR), l[j]? = some a → l[j + 1]? = some b → a.h = b.h ∧ kl a.hi b.lo
  | [] => by simp [adjK]
  | [x] => by simp [adjK]
  | x :: y :: l => by
    rw [adjK]
    simp only [Bool.and_eq_true, decide_eq_true_eq, adjK_iff (y :: l)]
    constructor
    · rintro ⟨⟨h1, h2⟩, h3⟩ j a b ha hb
      cases j with
      | zero =>
        simp at ha hb
        subst ha hb
        exact ⟨h1, h2⟩
      | succ j => exact h3 j a b (by simpa using ha) (by simpa using hb)
    · intro h
      exact ⟨h 0 x y rfl rfl, fun j a b ha hb => h (j + 1) a b (by simpa using ha) (by simpa using hb)⟩
theorem okBr_short {l : List KR} (h : l.length < 2) : okBr l = false := by
  unfold okBr
  rw [decide_eq_false (show ¬ 2 ≤ l.length by omega)]
  rfl
theorem okBr_long {l : List KR} (h : 6 < l.length) : okBr l = false := by
  unfold okBr
  rw [decide_eq_false (show ¬ l.length ≤ 6 by omega)]
  simp
theorem okBr_bad {l : List KR} {j : Nat} {a b : KR} (ha : l[j]? = some a) (hb : l[j + 1]? = some b) (h : ¬ (a.h = b.h ∧ kl a.hi b.lo)) : okBr l = false := by
  unfold okBr
  rw [show adjK l = false from Bool.eq_false_iff.2 fun hh => h ((adjK_iff l).1 hh j a b ha hb)]
  simp
theorem okBr_good {l : List KR} (h2 : 2 ≤ l.length) (h6 : l.length ≤ 6) (h : ∀ (j : Nat) (a b : KR), l[j]? = some a → l[j + 1]? = some b → a.h = b.h ∧ kl a.hi b.lo) : okBr l = true := by
  unfold okBr
  rw [decide_eq_true h2, decide_eq_true h6, (adjK_iff l).2 h]
  rfl
theorem okBr_len {l : List KR} (h : okBr l = true) : 2 ≤ l.length ∧ l.length ≤ 6 := by
  simp only [okBr, Bool.and_eq_true, decide_eq_true_eq] at h
  exact ⟨h.1.1, h.1.2⟩
theorem okBr_adj {l : List KR} (h : okBr l = true) : ∀ (j : Nat) (a b : KR), l[j]? = some a → l[j + 1]? = some b → a.h = b.h ∧ kl a.hi b.lo := by
  simp only [okBr, Bool.and_eq_true] at h
  exact (adjK_iff l).1 h.2
/-- All are of the first one's height. -/
theorem adj_first {l : List KR} {x : KR} (hx : l[0]? = some x) : ∀ (k : Nat) (a : KR), (∀ (j : Nat) (a b : KR), j < k → l[j]? = some a → l[j + 1]? = some b → a.h = b.h ∧ kl a.hi b.lo) → l[k]? = some a → a.h = x.h
  | 0, a, _, ha => by rw [hx] at ha; cases ha; rfl
  | k + 1, a, h, ha => by
    have hk : k < l.length := by have := (List.getElem?_eq_some_iff.1 ha).1; omega
    have h1 := adj_first hx k l[k] (fun j a b hj => h j a b (by omega)) (List.getElem?_eq_getElem hk)
    exact (h k l[k] a (by omega) (List.getElem?_eq_getElem hk) ha).1.symm.trans h1

/-- What is known of a branch. -/
def goodK (k : KR) : Bool := k.full && k.enough
def ofK (l : List KR) : KR := ⟨(l.headD .zero).h + 1, (l.headD .zero).lo, (l.getLastD .zero).hi, l.all goodK, decide (3 ≤ l.length)⟩
theorem headD_at {l : List KR} {x : KR} (h : l[0]? = some x) : l.headD .zero = x := by
  cases l with
  | nil => simp at h
  | cons y l => simpa using h
theorem lastD_at {l : List KR} {x : KR} {n : Nat} (h : l[n]? = some x) (hn : n + 1 = l.length) : l.getLastD .zero = x := by
  rw [List.getLastD_eq_getLast?, List.getLast?_eq_getElem?, show l.length - 1 = n by omega, h]
  rfl

end Go.Proofs.Ytkooaechcbopnaa
