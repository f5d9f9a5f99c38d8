/-
  Cursors, without a program: places in a sorted list, what moves make of them, and what the first entry of an iterator is, apart from one with a given key; conditions: the list is sorted, no key is empty.
-/
import Derived.Test.YtkooaechcbopnaaWalkDown
namespace Go.Proofs.Ytkooaechcbopnaa
open Go.RowKit Go.Sort
set_option linter.unusedVariables false

/-- The first entry whose key isn't left. -/
def hit (left : ByteArray) (xs : List Ent) : Option Ent := xs.find? fun e => !decide (e.k = left)
def keyO (o : Option Ent) : ByteArray := (o.map (·.k)).getD ByteArray.empty
def valO (o : Option Ent) : ByteArray := (o.map (·.v)).getD ByteArray.empty
def ansE (o : Option Ent) : Value := .agg #[.string (keyO o), .string (valO o)]
def ansV (o : Option Ent) : Value := .tuple #[ansE o, .bool o.isSome]
theorem hit_nil (left : ByteArray) : hit left [] = none := rfl
theorem hit_no {left : ByteArray} {e : Ent} {xs : List Ent} (h : e.k ≠ left) : hit left (e :: xs) = some e := by simp [hit, h]
theorem hit_yes {left : ByteArray} {e : Ent} {xs : List Ent} (h : e.k = left) : hit left (e :: xs) = hit left xs := by simp [hit, h]
theorem hit_head {left : ByteArray} {xs : List Ent} (h : ∀ e ∈ xs, e.k ≠ left) : hit left xs = xs.head? := by
  cases xs with
  | nil => rfl
  | cons e xs => exact hit_no (h e (List.mem_cons_self ..))
theorem hit_prefix {left : ByteArray} {pre : List Ent} {e : Ent} {xs : List Ent} (hp : pre ++ [e] <+: xs) (h : ∀ x ∈ pre, x.k = left) (he : e.k ≠ left) : hit left xs = some e := by
  obtain ⟨r, rfl⟩ := hp
  induction pre with
  | nil => exact hit_no he
  | cons x pre ih =>
    rw [List.cons_append, List.cons_append, hit_yes (h x (List.mem_cons_self ..))]
    exact ih fun y hy => h y (List.mem_cons_of_mem _ hy)
theorem hit_none {left : ByteArray} {xs : List Ent} (h : ∀ x ∈ xs, x.k = left) : hit left xs = none := by
  induction xs with
  | nil => rfl
  | cons x xs ih =>
    rw [hit_yes (h x (List.mem_cons_self ..))]
    exact ih fun y hy => h y (List.mem_cons_of_mem _ hy)

/-- A key isn't empty. -/
theorem okE_ne {e : Ent} (h : okE e = true) : e.k ≠ ByteArray.empty := by
  intro he
  simp only [okE, Bool.and_eq_true, decide_eq_true_eq] at h
  rw [he] at h
  exact absurd h.1 (by decide)

/-- What stands from a key on is the rest of a sorted list. -/
theorem ge_drop {l : List Ent} (hs : Sorted l) (key : ByteArray) : l.filter (ge key) = l.drop (lows l key).length := by
  induction l with
  | nil => rfl
  | cons x l ih =>
    obtain ⟨h1, h2⟩ := List.pairwise_cons.1 hs
    by_cases hx : kl x.k key
    · rw [List.filter_cons, if_neg (by simp [ge, hx]), ih h2, show lows (x :: l) key = x :: lows l key by simp [lows, hx]]
      rfl
    · have hn : lows (x :: l) key = [] := filter_none fun y hy => decide_eq_false (by
        rcases List.mem_cons.1 hy with rfl | hy
        · exact hx
        · exact fun h => hx (kl_trans (h1 y hy) h))
      rw [hn, List.length_nil, List.drop_zero]
      refine filter_all fun y hy => decide_eq_true ?_
      rcases List.mem_cons.1 hy with rfl | hy
      · exact hx
      · exact fun h => hx (kl_trans (h1 y hy) h)
theorem split_at {l : List Ent} {i : Nat} {e : Ent} (h : l[i]? = some e) : l = l.take i ++ e :: l.drop (i + 1) := by
  obtain ⟨hi, rfl⟩ := List.getElem?_eq_some_iff.1 h
  rw [← List.drop_eq_getElem_cons hi, List.take_append_drop]
/-- The entries ahead of one, and behind it. -/
theorem ahead_at {l : List Ent} (hs : Sorted l) {i : Nat} {e : Ent} (h : l[i]? = some e) : (∀ x ∈ l.take i, kl x.k e.k) ∧ (∀ x ∈ l.drop (i + 1), kl e.k x.k) := by
  have h0 := hs
  rw [split_at h] at h0
  obtain ⟨_, h2, h3⟩ := List.pairwise_append.1 h0
  exact ⟨fun x hx => h3 x hx e (List.mem_cons_self ..), fun x hx => (List.pairwise_cons.1 h2).1 x hx⟩
theorem ge_at {l : List Ent} (hs : Sorted l) {i : Nat} {e : Ent} (h : l[i]? = some e) : l.filter (ge e.k) = e :: l.drop (i + 1) := by
  obtain ⟨h1, h2⟩ := ahead_at hs h
  conv => lhs; rw [split_at h]
  rw [List.filter_append, filter_none (p := ge e.k) (l := l.take i) fun x hx => decide_eq_false (fun hn => hn (h1 x hx)), List.nil_append]
  refine filter_all fun x hx => decide_eq_true ?_
  rcases List.mem_cons.1 hx with rfl | hx
  · exact kl_irrefl _
  · exact kl_asymm (h2 x hx)
theorem le_at {l : List Ent} (hs : Sorted l) {i : Nat} {e : Ent} (h : l[i]? = some e) : (l.filter (le e.k)).reverse = e :: (l.take i).reverse := by
  obtain ⟨h1, h2⟩ := ahead_at hs h
  have : l.filter (le e.k) = l.take i ++ [e] := by
    conv => lhs; rw [split_at h]
    rw [List.filter_append, filter_all (p := le e.k) (l := l.take i) fun x hx => decide_eq_true (kl_asymm (h1 x hx)), List.filter_cons, if_pos (by simp [le, kl_irrefl]), filter_none (p := le e.k) (l := l.drop (i + 1)) fun x hx => decide_eq_false (fun hn => hn (h2 x hx))]
  rw [this, List.reverse_append]
  rfl

/-- A place, if there is one. -/
def inL (l : List Ent) (i : Nat) : Option Nat := if i < l.length then some i else none
def entAt (l : List Ent) (p : Option Nat) : Option Ent := p.bind (l[·]?)
def keyAt (l : List Ent) (p : Option Nat) : ByteArray := keyO (entAt l p)
def mvSeek (l : List Ent) (key : ByteArray) : Option Nat := inL l (lows l key).length
def mvNext (l : List Ent) : Option Nat → Option Nat
  | none => none
  | some i => inL l (i + 1)
def mvPrev (l : List Ent) : Option Nat → Option Nat
  | none => none
  | some i => if i = 0 then none else inL l (i - 1)
def mvLast (l : List Ent) : Option Nat := inL l (l.length - 1)
def mvFirst (l : List Ent) : Option Nat := inL l 0
/-- What is known of a place. -/
def OkP (l : List Ent) (p : Option Nat) : Prop := ∀ i, p = some i → i < l.length
theorem okP_inL (l : List Ent) (i : Nat) : OkP l (inL l i) := fun j h => by
  unfold inL at h
  split at h
  · cases h; assumption
  · cases h
theorem okP_none (l : List Ent) : OkP l none := fun _ h => by cases h
theorem okP_next (l : List Ent) (p : Option Nat) : OkP l (mvNext l p) := by
  cases p with
  | none => exact okP_none l
  | some i => exact okP_inL l _
theorem okP_prev (l : List Ent) (p : Option Nat) : OkP l (mvPrev l p) := by
  cases p with
  | none => exact okP_none l
  | some i =>
    unfold mvPrev
    simp only
    split
    · exact okP_none l
    · exact okP_inL l _
theorem entAt_inL (l : List Ent) (i : Nat) : entAt l (inL l i) = l[i]? := by
  unfold inL
  split
  · rfl
  · rename_i h
    exact (List.getElem?_eq_none (by omega)).symm
theorem inL_some (l : List Ent) (i : Nat) : (inL l i).isSome = (l[i]?).isSome := by
  unfold inL
  split
  · rename_i h; simp [h]
  · rename_i h; simp [h]
theorem okP_ent {l : List Ent} {p : Option Nat} (h : OkP l p) : (entAt l p).isSome = p.isSome := by
  cases p with
  | none => rfl
  | some i => simp [entAt, h i rfl]
theorem okP_at {l : List Ent} {i : Nat} (h : OkP l (some i)) : ∃ e, l[i]? = some e := ⟨_, List.getElem?_eq_getElem (h i rfl)⟩
/-- Where a cursor stands its key isn't empty. -/
theorem placed_iff {l : List Ent} {p : Option Nat} (h : OkP l p) (ho : ∀ e ∈ l, okE e = true) : decide (keyAt l p = ByteArray.empty) = !p.isSome := by
  cases p with
  | none => rfl
  | some i =>
    obtain ⟨e, he⟩ := okP_at h
    have : keyAt l (some i) = e.k := by simp [keyAt, keyO, entAt, he]
    rw [this, decide_eq_false (okE_ne (ho e (List.mem_of_getElem? he)))]
    rfl
theorem keyAt_some {l : List Ent} {i : Nat} {e : Ent} (h : l[i]? = some e) : keyAt l (some i) = e.k := by simp [keyAt, keyO, entAt, h]

section
variable {l : List Ent} (hs : Sorted l) (ho : ∀ e ∈ l, okE e = true)
include hs
include ho in
theorem hit_seek (key : ByteArray) : hit ByteArray.empty (l.filter (ge key)) = entAt l (mvSeek l key) := by
  unfold mvSeek
  rw [entAt_inL, hit_head fun e he => okE_ne (ho e (List.mem_filter.1 he).1), ge_drop hs, List.head?_drop]
theorem hit_next {p : Option Nat} (hp : OkP l p) (hn : p ≠ none) : hit (keyAt l p) (l.filter (ge (keyAt l p))) = entAt l (mvNext l p) := by
  cases p with
  | none => exact absurd rfl hn
  | some i =>
    obtain ⟨e, he⟩ := okP_at hp
    rw [keyAt_some he, ge_at hs he, hit_yes rfl, mvNext, entAt_inL, hit_head fun x hx heq => kl_irrefl x.k (by have := (ahead_at hs he).2 x hx; rwa [← heq] at this), List.head?_drop]
theorem hit_prev {p : Option Nat} (hp : OkP l p) (hn : p ≠ none) : hit (keyAt l p) (l.filter (le (keyAt l p))).reverse = entAt l (mvPrev l p) := by
  cases p with
  | none => exact absurd rfl hn
  | some i =>
    obtain ⟨e, he⟩ := okP_at hp
    have hi := hp i rfl
    rw [keyAt_some he, le_at hs he, hit_yes rfl, hit_head fun x hx heq => kl_irrefl x.k (by
      have := (ahead_at hs he).1 x (List.mem_reverse.1 hx)
      rwa [← heq] at this), List.head?_reverse]
    unfold mvPrev
    simp only
    by_cases h0 : i = 0
    · subst h0
      simp [entAt]
    · rw [if_neg h0, entAt_inL, List.getLast?_eq_getElem?, List.length_take, Nat.min_eq_left (by omega), List.getElem?_take_of_lt (by omega)]
omit hs in
include ho in
theorem hit_last : hit ByteArray.empty l.reverse = entAt l (mvLast l) := by
  unfold mvLast
  rw [entAt_inL, hit_head fun e he => okE_ne (ho e (List.mem_reverse.1 he)), List.head?_reverse, List.getLast?_eq_getElem?]
include ho in
theorem hit_entry {p : Option Nat} (hp : OkP l p) (hn : p ≠ none) : hit ByteArray.empty (l.filter (ge (keyAt l p))) = entAt l p := by
  cases p with
  | none => exact absurd rfl hn
  | some i =>
    obtain ⟨e, he⟩ := okP_at hp
    rw [keyAt_some he, ge_at hs he, hit_no (okE_ne (ho e (List.mem_of_getElem? he)))]
    exact he.symm
omit hs ho in
theorem mvSeek_empty : mvSeek l ByteArray.empty = mvFirst l := by
  unfold mvSeek mvFirst
  rw [show lows l ByteArray.empty = [] from filter_none fun e he => decide_eq_false (List.not_lt_nil _)]
  rfl
end

end Go.Proofs.Ytkooaechcbopnaa
