/-
  Sorted lists of entries, without a program: the order of keys, the list with an entry, the list without a key, the place of a key; no condition beyond those stated.
-/
import Derived.Test.YtkooaechcbopnaaEnts
namespace Go.Proofs.Ytkooaechcbopnaa
open Go.RowKit Go.Sort
set_option linter.unusedVariables false

/-- The order of keys: bytewise. -/
def kl (a b : ByteArray) : Prop := a.data.toList < b.data.toList
instance (a b : ByteArray) : Decidable (kl a b) := inferInstanceAs (Decidable (a.data.toList < b.data.toList))
theorem kl_irrefl (a : ByteArray) : ¬ kl a a := List.lt_irrefl _
theorem kl_trans {a b c : ByteArray} (h : kl a b) (k : kl b c) : kl a c := List.lt_trans h k
theorem kl_asymm {a b : ByteArray} (h : kl a b) : ¬ kl b a := fun k => kl_irrefl a (kl_trans h k)
theorem kl_tri {a b : ByteArray} (h : ¬ kl a b) (k : ¬ kl b a) : a = b := by
  have e := List.le_antisymm (List.not_lt.1 k) (List.not_lt.1 h)
  cases a; cases b
  simp only at e
  congr 1
  exact Array.toList_inj.1 e
theorem less_eq (a b : ByteArray) : Op.bytesLess a.toList b.toList = decide (kl a b) := by
  rw [bytesLess_eq, Lib.toList_data, Lib.toList_data]
  rfl
theorem same_eq (a b : ByteArray) : (a.toList == b.toList) = decide (a = b) := by
  rw [Lib.toList_data, Lib.toList_data]
  by_cases h : a = b
  · subst h; simp
  · have : a.data.toList ≠ b.data.toList := by
      intro e
      apply h
      cases a; cases b
      congr 1
      exact Array.toList_inj.1 e
    have h2 : ¬ a.data = b.data := fun e => this (by rw [e])
    simp [h, h2]

/-- Keys rise. -/
def Sorted (l : List Ent) : Prop := l.Pairwise fun a b => kl a.k b.k
instance (l : List Ent) : Decidable (Sorted l) := inferInstanceAs (Decidable (l.Pairwise _))

theorem sorted_lt {l : List Ent} (h : Sorted l) {i j : Nat} {a b : Ent} (hij : i < j) (ha : l[i]? = some a) (hb : l[j]? = some b) : kl a.k b.k := by
  obtain ⟨h1, rfl⟩ := List.getElem?_eq_some_iff.1 ha
  obtain ⟨h2, rfl⟩ := List.getElem?_eq_some_iff.1 hb
  exact List.pairwise_iff_getElem.1 h i j h1 h2 hij
theorem sorted_of_adj {l : List Ent} (h : ∀ (j : Nat) (a b : Ent), l[j]? = some a → l[j + 1]? = some b → kl a.k b.k) : Sorted l := by
  unfold Sorted
  induction l with
  | nil => exact List.Pairwise.nil
  | cons x l ih =>
    have ih' := ih (fun j a b ha hb => h (j + 1) a b (by simpa using ha) (by simpa using hb))
    refine List.pairwise_cons.2 ⟨fun y hy => ?_, ih'⟩
    cases l with
    | nil => cases hy
    | cons z l =>
      have hz : kl x.k z.k := h 0 x z rfl rfl
      rcases List.mem_cons.1 hy with rfl | hy
      · exact hz
      · exact kl_trans hz ((List.pairwise_cons.1 ih').1 y hy)

/-- What a search for a key answers. -/
structure Place (l : List Ent) (key : ByteArray) (i : Nat) (f : Bool) : Prop where
  le : i ≤ l.length
  found : f = true ↔ ∃ e, l[i]? = some e ∧ e.k = key
  under : Sorted l → ∀ j e, j < i → l[j]? = some e → kl e.k key
  above : Sorted l → ∀ j e, i ≤ j → l[j]? = some e → ¬ kl e.k key

theorem Place.unique {l : List Ent} {key : ByteArray} {i i' : Nat} {f f' : Bool} (hs : Sorted l) (h : Place l key i f) (h' : Place l key i' f') : i = i' ∧ f = f' := by
  have hi : i = i' := by
    rcases Nat.lt_trichotomy i i' with hlt | he | hgt
    · have hl : i < l.length := by have := h'.le; omega
      exact absurd (h'.under hs i _ hlt (List.getElem?_eq_getElem hl)) (h.above hs i _ (Nat.le_refl _) (List.getElem?_eq_getElem hl))
    · exact he
    · have hl : i' < l.length := by have := h.le; omega
      exact absurd (h.under hs i' _ hgt (List.getElem?_eq_getElem hl)) (h'.above hs i' _ (Nat.le_refl _) (List.getElem?_eq_getElem hl))
  subst hi
  refine ⟨rfl, ?_⟩
  have := h.found.trans h'.found.symm
  cases f <;> cases f' <;> simp_all

/-- In a sorted list behind the place stand only greater keys. -/
theorem Place.over {l : List Ent} {key : ByteArray} {i : Nat} {f : Bool} (h : Place l key i f) (hs : Sorted l) {j : Nat} {e : Ent} (hj : (if f then i + 1 else i) ≤ j) (he : l[j]? = some e) : kl key e.k := by
  have hij : i ≤ j := by cases f <;> simp at hj <;> omega
  have h1 := h.above hs j e hij he
  rcases Decidable.em (kl key e.k) with hk | hk
  · exact hk
  · have hkey := kl_tri h1 hk
    rcases Nat.lt_or_ge i j with hlt | hge
    · have hl : i < l.length := by have := (List.getElem?_eq_some_iff.1 he).1; omega
      have h2 := sorted_lt hs hlt (List.getElem?_eq_getElem hl) he
      rw [hkey] at h2
      exact absurd h2 (h.above hs i _ (Nat.le_refl _) (List.getElem?_eq_getElem hl))
    · have : j = i := by omega
      subst this
      have hf : f = true := h.found.2 ⟨e, he, hkey⟩
      subst hf
      simp only [if_true] at hj
      omega
theorem Place.mem {l : List Ent} {key : ByteArray} {i : Nat} {f : Bool} (h : Place l key i f) (hs : Sorted l) : f = true ↔ ∃ e ∈ l, e.k = key := by
  refine h.found.trans ⟨fun ⟨e, he, hk⟩ => ⟨e, List.mem_of_getElem? he, hk⟩, fun ⟨e, he, hk⟩ => ?_⟩
  obtain ⟨j, hj⟩ := List.getElem?_of_mem he
  rcases Nat.lt_or_ge j i with hlt | hge
  · have := h.under hs j e hlt hj
    rw [hk] at this
    exact absurd this (kl_irrefl _)
  · rcases Nat.lt_or_ge i j with hlt2 | hge2
    · have hl : i < l.length := by have := (List.getElem?_eq_some_iff.1 hj).1; omega
      have h2 := sorted_lt hs hlt2 (List.getElem?_eq_getElem hl) hj
      rw [hk] at h2
      exact absurd h2 (h.above hs i _ (Nat.le_refl _) (List.getElem?_eq_getElem hl))
    · have : j = i := by omega
      subst this
      exact ⟨e, hj, hk⟩

def lows (l : List Ent) (key : ByteArray) : List Ent := l.filter fun e => decide (kl e.k key)
def highs (l : List Ent) (key : ByteArray) : List Ent := l.filter fun e => decide (kl key e.k)
/-- A list with an entry. -/
def put (l : List Ent) (e : Ent) : List Ent := lows l e.k ++ e :: highs l e.k
/-- A list without a key. -/
def del (l : List Ent) (key : ByteArray) : List Ent := lows l key ++ highs l key

theorem filter_all {p : Ent → Bool} {l : List Ent} (h : ∀ e ∈ l, p e = true) : l.filter p = l := List.filter_eq_self.2 h
theorem filter_none {p : Ent → Bool} {l : List Ent} (h : ∀ e ∈ l, p e = false) : l.filter p = [] := List.filter_eq_nil_iff.2 (fun e he => by simp [h e he])

theorem Place.split {l : List Ent} {key : ByteArray} {i : Nat} {f : Bool} (h : Place l key i f) (hs : Sorted l) : l.take i = lows l key ∧ l.drop (if f then i + 1 else i) = highs l key := by
  have hlow : ∀ e ∈ l.take i, kl e.k key := fun e he => by
    obtain ⟨j, hj⟩ := List.getElem?_of_mem he
    have hji : j < i := by
      have := (List.getElem?_eq_some_iff.1 hj).1
      rw [List.length_take] at this
      omega
    rw [List.getElem?_take_of_lt hji] at hj
    exact h.under hs j e hji hj
  have hhigh : ∀ e ∈ l.drop (if f then i + 1 else i), kl key e.k := fun e he => by
    obtain ⟨j, hj⟩ := List.getElem?_of_mem he
    rw [List.getElem?_drop] at hj
    exact h.over hs (Nat.le_add_right _ _) hj
  have hmid : ∃ m : List Ent, l = l.take i ++ m ++ l.drop (if f then i + 1 else i) ∧ ∀ e ∈ m, e.k = key := by
    cases f with
    | false => exact ⟨[], by simp, by simp⟩
    | true =>
      obtain ⟨e, he, hk⟩ := h.found.1 rfl
      obtain ⟨hl, rfl⟩ := List.getElem?_eq_some_iff.1 he
      refine ⟨[l[i]], ?_, fun x hx => by rw [List.mem_singleton.1 hx]; exact hk⟩
      simp only [if_true]
      rw [List.append_assoc, List.singleton_append, ← List.drop_eq_getElem_cons hl, List.take_append_drop]
  obtain ⟨m, hm, hmk⟩ := hmid
  generalize l.take i = a at *
  generalize l.drop (if f then i + 1 else i) = b at *
  unfold lows highs
  rw [hm]
  simp only [List.filter_append]
  rw [filter_all (l := a) (fun e he => decide_eq_true (hlow e he)),
    filter_none (l := m) (fun e he => decide_eq_false (by rw [hmk e he]; exact kl_irrefl _)),
    filter_none (l := b) (fun e he => decide_eq_false (kl_asymm (hhigh e he))),
    filter_none (l := a) (fun e he => decide_eq_false (kl_asymm (hlow e he))),
    filter_none (l := m) (fun e he => decide_eq_false (by rw [hmk e he]; exact kl_irrefl _)),
    filter_all (l := b) (fun e he => decide_eq_true (hhigh e he))]
  simp

theorem mem_lows {l : List Ent} {key : ByteArray} {e : Ent} : e ∈ lows l key ↔ e ∈ l ∧ kl e.k key := by simp [lows]
theorem mem_highs {l : List Ent} {key : ByteArray} {e : Ent} : e ∈ highs l key ↔ e ∈ l ∧ kl key e.k := by simp [highs]
theorem mem_put {l : List Ent} {x e : Ent} : e ∈ put l x ↔ e = x ∨ (e ∈ l ∧ e.k ≠ x.k) := by
  unfold put
  simp only [List.mem_append, List.mem_cons, mem_lows, mem_highs]
  constructor
  · rintro (⟨h1, h2⟩ | rfl | ⟨h1, h2⟩)
    · exact .inr ⟨h1, fun e => by rw [e] at h2; exact kl_irrefl _ h2⟩
    · exact .inl rfl
    · exact .inr ⟨h1, fun e => by rw [e] at h2; exact kl_irrefl _ h2⟩
  · rintro (rfl | ⟨h1, h2⟩)
    · exact .inr (.inl rfl)
    · rcases Decidable.em (kl e.k x.k) with h | h
      · exact .inl ⟨h1, h⟩
      · rcases Decidable.em (kl x.k e.k) with h' | h'
        · exact .inr (.inr ⟨h1, h'⟩)
        · exact absurd (kl_tri h h') h2
theorem mem_del {l : List Ent} {key : ByteArray} {e : Ent} : e ∈ del l key ↔ e ∈ l ∧ e.k ≠ key := by
  unfold del
  simp only [List.mem_append, mem_lows, mem_highs]
  constructor
  · rintro (⟨h1, h2⟩ | ⟨h1, h2⟩) <;> exact ⟨h1, fun e => by rw [e] at h2; exact kl_irrefl _ h2⟩
  · rintro ⟨h1, h2⟩
    rcases Decidable.em (kl e.k key) with h | h
    · exact .inl ⟨h1, h⟩
    · rcases Decidable.em (kl key e.k) with h' | h'
      · exact .inr ⟨h1, h'⟩
      · exact absurd (kl_tri h h') h2
theorem sorted_put {l : List Ent} (h : Sorted l) (e : Ent) : Sorted (put l e) := by
  unfold put Sorted
  refine List.pairwise_append.2 ⟨h.filter _, List.pairwise_cons.2 ⟨fun x hx => (mem_highs.1 hx).2, h.filter _⟩, fun a ha b hb => ?_⟩
  rcases List.mem_cons.1 hb with rfl | hb
  · exact (mem_lows.1 ha).2
  · exact kl_trans (mem_lows.1 ha).2 (mem_highs.1 hb).2
theorem sorted_del {l : List Ent} (h : Sorted l) (key : ByteArray) : Sorted (del l key) := by
  unfold del Sorted
  exact List.pairwise_append.2 ⟨h.filter _, h.filter _, fun a ha b hb => kl_trans (mem_lows.1 ha).2 (mem_highs.1 hb).2⟩

theorem lows_lows (l : List Ent) (key : ByteArray) : lows (lows l key) key = lows l key := filter_all fun e he => decide_eq_true (mem_lows.1 he).2
theorem lows_highs (l : List Ent) (key : ByteArray) : lows (highs l key) key = [] := filter_none fun e he => decide_eq_false (kl_asymm (mem_highs.1 he).2)
theorem highs_lows (l : List Ent) (key : ByteArray) : highs (lows l key) key = [] := filter_none fun e he => decide_eq_false (kl_asymm (mem_lows.1 he).2)
theorem highs_highs (l : List Ent) (key : ByteArray) : highs (highs l key) key = highs l key := filter_all fun e he => decide_eq_true (mem_highs.1 he).2
theorem lows_append (a b : List Ent) (key : ByteArray) : lows (a ++ b) key = lows a key ++ lows b key := List.filter_append _ _
theorem highs_append (a b : List Ent) (key : ByteArray) : highs (a ++ b) key = highs a key ++ highs b key := List.filter_append _ _
theorem lows_one (e : Ent) : lows [e] e.k = [] := filter_none fun x hx => by rw [List.mem_singleton.1 hx]; exact decide_eq_false (kl_irrefl _)
theorem highs_one (e : Ent) : highs [e] e.k = [] := filter_none fun x hx => by rw [List.mem_singleton.1 hx]; exact decide_eq_false (kl_irrefl _)
theorem lows_put (l : List Ent) (e : Ent) : lows (put l e) e.k = lows l e.k := by
  unfold put
  rw [← List.singleton_append, lows_append, lows_append, lows_lows, lows_one, lows_highs]
  simp
theorem highs_put (l : List Ent) (e : Ent) : highs (put l e) e.k = highs l e.k := by
  unfold put
  rw [← List.singleton_append, highs_append, highs_append, highs_lows, highs_one, highs_highs]
  simp
theorem del_put (l : List Ent) (e : Ent) : del (put l e) e.k = del l e.k := by
  unfold del
  rw [lows_put, highs_put]
theorem put_del (l : List Ent) (e : Ent) : put (del l e.k) e = put l e := by
  have h1 : lows (del l e.k) e.k = lows l e.k := by unfold del; rw [lows_append, lows_lows, lows_highs, List.append_nil]
  have h2 : highs (del l e.k) e.k = highs l e.k := by unfold del; rw [highs_append, highs_lows, highs_highs, List.nil_append]
  unfold put
  rw [h1, h2]

/-- Which list pair.With and pair.Without make, by the place that the search answered. -/
def wth (l : List Ent) (e : Ent) (i : Nat) (f : Bool) : List Ent := l.take i ++ e :: l.drop (if f then i + 1 else i)
def wout (l : List Ent) (i : Nat) (f : Bool) : List Ent := l.take i ++ l.drop (if f then i + 1 else i)
theorem Place.wth {l : List Ent} {e : Ent} {i : Nat} {f : Bool} (h : Place l e.k i f) (hs : Sorted l) : wth l e i f = put l e := by
  unfold Go.Proofs.Ytkooaechcbopnaa.wth put
  rw [(h.split hs).1, (h.split hs).2]
theorem Place.wout {l : List Ent} {key : ByteArray} {i : Nat} {f : Bool} (h : Place l key i f) (hs : Sorted l) : wout l i f = del l key := by
  unfold Go.Proofs.Ytkooaechcbopnaa.wout del
  rw [(h.split hs).1, (h.split hs).2]
theorem Place.lt {l : List Ent} {key : ByteArray} {i : Nat} (h : Place l key i true) : i < l.length := by
  obtain ⟨e, he, _⟩ := h.found.1 rfl
  exact (List.getElem?_eq_some_iff.1 he).1
theorem Place.wout_len {l : List Ent} {key : ByteArray} {i : Nat} {f : Bool} (h : Place l key i f) : (Go.Proofs.Ytkooaechcbopnaa.wout l i f).length = l.length - (if f then 1 else 0) := by
  unfold Go.Proofs.Ytkooaechcbopnaa.wout
  have := h.le
  cases f with
  | false => simp <;> omega
  | true => have := h.lt; simp <;> omega
theorem Place.wth_len {l : List Ent} {e : Ent} {i : Nat} {f : Bool} (h : Place l e.k i f) : (Go.Proofs.Ytkooaechcbopnaa.wth l e i f).length = l.length + (if f then 0 else 1) := by
  unfold Go.Proofs.Ytkooaechcbopnaa.wth
  have := h.le
  cases f with
  | false => simp <;> omega
  | true => have := h.lt; simp <;> omega

/-- The last entry with a key. -/
def lastOf (l : List Ent) (key : ByteArray) : Option Ent := l.foldl (fun o e => if e.k = key then some e else o) none
theorem lastOf_snoc (l : List Ent) (x : Ent) (key : ByteArray) : lastOf (l ++ [x]) key = if x.k = key then some x else lastOf l key := by
  unfold lastOf
  rw [List.foldl_append]
  rfl
/-- A list built of entries. -/
def builtOf (l : List Ent) : List Ent := l.foldl put []
theorem builtOf_snoc (l : List Ent) (x : Ent) : builtOf (l ++ [x]) = put (builtOf l) x := by
  unfold builtOf
  rw [List.foldl_append]
  rfl
theorem take_snoc {l : List Ent} {k : Nat} {x : Ent} (h : l[k]? = some x) : l.take (k + 1) = l.take k ++ [x] := by
  rw [List.take_add_one, h]
  rfl
theorem sorted_builtOf_take (l : List Ent) (k : Nat) : Sorted (builtOf (l.take k)) := by
  induction k with
  | zero => simp [builtOf, Sorted]
  | succ k ih =>
    cases h : l[k]? with
    | none =>
      rw [List.take_add_one, h]
      simpa using ih
    | some x =>
      rw [take_snoc h, builtOf_snoc]
      exact sorted_put ih x
theorem sorted_builtOf (l : List Ent) : Sorted (builtOf l) := by
  have := sorted_builtOf_take l l.length
  rwa [List.take_length] at this
theorem mem_builtOf_take (l : List Ent) (k : Nat) (e : Ent) : e ∈ builtOf (l.take k) ↔ lastOf (l.take k) e.k = some e := by
  induction k with
  | zero => simp [builtOf, lastOf]
  | succ k ih =>
    cases h : l[k]? with
    | none =>
      rw [List.take_add_one, h]
      simpa using ih
    | some x =>
      rw [take_snoc h, builtOf_snoc, lastOf_snoc, mem_put]
      by_cases hx : x.k = e.k
      · rw [if_pos hx]
        constructor
        · rintro (rfl | ⟨_, h2⟩)
          · rfl
          · exact absurd hx.symm h2
        · intro h2
          exact .inl (Option.some.inj h2).symm
      · rw [if_neg hx, ← ih]
        constructor
        · rintro (rfl | ⟨h1, _⟩)
          · exact absurd rfl hx
          · exact h1
        · intro h1
          exact .inr ⟨h1, fun h2 => hx h2.symm⟩
theorem mem_builtOf (l : List Ent) (e : Ent) : e ∈ builtOf l ↔ lastOf l e.k = some e := by
  have := mem_builtOf_take l l.length e
  rwa [List.take_length] at this
theorem lastOf_key {l : List Ent} {key : ByteArray} {e : Ent} (h : lastOf l key = some e) : e.k = key := by
  have : ∀ k, lastOf (l.take k) key = some e → e.k = key := by
    intro k
    induction k with
    | zero => intro h; simp [lastOf] at h
    | succ k ih =>
      cases hx : l[k]? with
      | none =>
        rw [List.take_add_one, hx]
        simpa using ih
      | some x =>
        rw [take_snoc hx, lastOf_snoc]
        by_cases hk : x.k = key
        · rw [if_pos hk]
          intro h2
          rw [← Option.some.inj h2]
          exact hk
        · rw [if_neg hk]
          exact ih
  exact this l.length (by rwa [List.take_length])
theorem put_len (l : List Ent) (e : Ent) (h : Sorted l) : (put l e).length ≤ l.length + 1 := by
  have h1 : (lows l e.k).length + (highs l e.k).length ≤ l.length := by
    unfold lows highs
    clear h
    induction l with
    | nil => simp
    | cons x l ih =>
      simp only [List.filter_cons]
      by_cases h1 : kl x.k e.k
      · have h2 := kl_asymm h1
        simp [h1, h2]; omega
      · by_cases h2 : kl e.k x.k
        · simp [h1, h2]; omega
        · simp [h1, h2]; omega
  unfold put
  simp
  omega
theorem builtOf_len_take (l : List Ent) (k : Nat) : (builtOf (l.take k)).length ≤ k := by
  induction k with
  | zero => simp [builtOf]
  | succ k ih =>
    cases h : l[k]? with
    | none =>
      rw [List.take_add_one, h]
      simp
      omega
    | some x =>
      rw [take_snoc h, builtOf_snoc]
      have := put_len (builtOf (l.take k)) x (sorted_builtOf_take l k)
      omega
/-- Of a sorted list each key has its own place. -/
theorem place_self {l : List Ent} (hs : Sorted l) {i : Nat} {e : Ent} (he : l[i]? = some e) : Place l e.k i true where
  le := Nat.le_of_lt (List.getElem?_eq_some_iff.1 he).1
  found := ⟨fun _ => ⟨e, he, rfl⟩, fun _ => rfl⟩
  under := fun _ j x hj hx => sorted_lt hs hj hx he
  above := fun _ j x hj hx => by
    rcases Nat.lt_or_ge i j with h | h
    · exact kl_asymm (sorted_lt hs h he hx)
    · have : j = i := by omega
      subst this
      rw [he] at hx
      cases hx
      exact kl_irrefl _

end Go.Proofs.Ytkooaechcbopnaa
