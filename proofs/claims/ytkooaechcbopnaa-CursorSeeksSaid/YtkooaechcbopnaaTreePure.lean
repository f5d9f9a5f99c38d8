/-
  Trees, without a program: sorted lists by their members, the value of a key, a change in the midst of a list; no condition beyond those stated.
-/
import Derived.Test.YtkooaechcbopnaaNodePure
namespace Go.Proofs.Ytkooaechcbopnaa
open Go.RowKit Go.Sort
set_option linter.unusedVariables false

theorem kl_le_trans {a b c : ByteArray} (h : kl a b) (k : ¬ kl c b) : kl a c := by
  rcases Decidable.em (kl b c) with hb | hb
  · exact kl_trans h hb
  · rw [← kl_tri hb k]; exact h
theorem le_kl_trans {a b c : ByteArray} (h : ¬ kl b a) (k : kl b c) : kl a c := by
  rcases Decidable.em (kl a b) with hb | hb
  · exact kl_trans hb k
  · rw [kl_tri hb h]; exact k

/-- Sorted lists of the same members are the same. -/
theorem sorted_ext : ∀ {l m : List Ent}, Sorted l → Sorted m → (∀ e, e ∈ l ↔ e ∈ m) → l = m
  | [], [], _, _, _ => rfl
  | [], x :: m, _, _, h => absurd ((h x).2 (List.mem_cons_self ..)) (by simp)
  | x :: l, [], _, _, h => absurd ((h x).1 (List.mem_cons_self ..)) (by simp)
  | x :: l, y :: m, hl, hm, h => by
    have hl' := List.pairwise_cons.1 hl
    have hm' := List.pairwise_cons.1 hm
    have hxy : x = y := by
      rcases List.mem_cons.1 ((h x).1 (List.mem_cons_self ..)) with e | hx
      · exact e
      · rcases List.mem_cons.1 ((h y).2 (List.mem_cons_self ..)) with e | hy
        · exact e.symm
        · exact absurd (hm'.1 x hx) (kl_asymm (hl'.1 y hy))
    subst hxy
    rw [sorted_ext hl'.2 hm'.2 fun e => ?_]
    constructor
    · intro he
      rcases List.mem_cons.1 ((h e).1 (List.mem_cons_of_mem _ he)) with rfl | hx
      · exact absurd (hl'.1 e he) (kl_irrefl _)
      · exact hx
    · intro he
      rcases List.mem_cons.1 ((h e).2 (List.mem_cons_of_mem _ he)) with rfl | hx
      · exact absurd (hm'.1 e he) (kl_irrefl _)
      · exact hx
/-- A key stands once. -/
theorem sorted_once {l : List Ent} (h : Sorted l) {a b : Ent} (ha : a ∈ l) (hb : b ∈ l) (hk : a.k = b.k) : a = b := by
  obtain ⟨i, hi⟩ := List.getElem?_of_mem ha
  obtain ⟨j, hj⟩ := List.getElem?_of_mem hb
  rcases Nat.lt_trichotomy i j with hij | hij | hij
  · have := sorted_lt h hij hi hj
    rw [hk] at this
    exact absurd this (kl_irrefl _)
  · subst hij
    rw [hi] at hj
    exact Option.some.inj hj
  · have := sorted_lt h hij hj hi
    rw [hk] at this
    exact absurd this (kl_irrefl _)

/-- The value of a key. -/
def look (l : List Ent) (key : ByteArray) : Option ByteArray := (l.find? fun e => decide (e.k = key)).map (·.v)
theorem look_some {l : List Ent} (h : Sorted l) {e : Ent} (he : e ∈ l) : look l e.k = some e.v := by
  unfold look
  cases hf : l.find? fun x => decide (x.k = e.k) with
  | none => exact absurd (List.find?_eq_none.1 hf e he) (by simp)
  | some x =>
    have h1 := List.find?_some hf
    have h2 := List.mem_of_find?_eq_some hf
    rw [sorted_once h h2 he (by simpa using h1)]
    rfl
theorem look_none {l : List Ent} {key : ByteArray} (h : ∀ e ∈ l, e.k ≠ key) : look l key = none := by
  unfold look
  rw [List.find?_eq_none.2 fun e he => by simpa using h e he]
  rfl
theorem look_none_iff {l : List Ent} {key : ByteArray} : look l key = none ↔ ∀ e ∈ l, e.k ≠ key := by
  refine ⟨fun h e he hk => ?_, look_none⟩
  unfold look at h
  rw [Option.map_eq_none_iff, List.find?_eq_none] at h
  exact h e he (by simpa using hk)
theorem look_mem {l : List Ent} {key v : ByteArray} (h : look l key = some v) : ⟨key, v⟩ ∈ l := by
  unfold look at h
  rw [Option.map_eq_some_iff] at h
  obtain ⟨e, he, rfl⟩ := h
  have h1 : e.k = key := by simpa using List.find?_some he
  subst h1
  exact List.mem_of_find?_eq_some he
theorem look_iff {l : List Ent} (h : Sorted l) {key v : ByteArray} : look l key = some v ↔ ⟨key, v⟩ ∈ l := ⟨look_mem, fun he => look_some h he⟩
theorem look_mid {A M B : List Ent} {key : ByteArray} (ha : ∀ e ∈ A, kl e.k key) (hb : ∀ e ∈ B, kl key e.k) : look (A ++ M ++ B) key = look M key := by
  unfold look
  have h1 : A.find? (fun e => decide (e.k = key)) = none := List.find?_eq_none.2 fun e he hk => kl_irrefl key ((of_decide_eq_true hk) ▸ ha e he)
  have h2 : B.find? (fun e => decide (e.k = key)) = none := List.find?_eq_none.2 fun e he hk => kl_irrefl key ((of_decide_eq_true hk) ▸ hb e he)
  rw [List.find?_append, List.find?_append, h1, h2]
  simp
/-- What a search answers, and the value of the key. -/
theorem Place.look {l : List Ent} {key : ByteArray} {i : Nat} {f : Bool} (h : Place l key i f) (hs : Sorted l) : (f = true ∧ ∃ e, l[i]? = some e ∧ e.k = key ∧ Go.Proofs.Ytkooaechcbopnaa.look l key = some e.v) ∨ (f = false ∧ Go.Proofs.Ytkooaechcbopnaa.look l key = none) := by
  cases f with
  | true =>
    obtain ⟨e, he, hk⟩ := h.found.1 rfl
    refine .inl ⟨rfl, e, he, hk, ?_⟩
    rw [← hk]
    exact look_some hs (List.mem_of_getElem? he)
  | false =>
    refine .inr ⟨rfl, look_none fun e he hk => ?_⟩
    have := (h.mem hs).2 ⟨e, he, hk⟩
    cases this

theorem lows_mid {A M B : List Ent} {key : ByteArray} (ha : ∀ e ∈ A, kl e.k key) (hb : ∀ e ∈ B, kl key e.k) : lows (A ++ M ++ B) key = A ++ lows M key := by
  rw [lows_append, lows_append, show lows A key = A from filter_all fun e he => decide_eq_true (ha e he), show lows B key = [] from filter_none fun e he => decide_eq_false (kl_asymm (hb e he)), List.append_nil]
theorem highs_mid {A M B : List Ent} {key : ByteArray} (ha : ∀ e ∈ A, kl e.k key) (hb : ∀ e ∈ B, kl key e.k) : highs (A ++ M ++ B) key = highs M key ++ B := by
  rw [highs_append, highs_append, show highs A key = [] from filter_none fun e he => decide_eq_false (kl_asymm (ha e he)), show highs B key = B from filter_all fun e he => decide_eq_true (hb e he), List.nil_append]
theorem put_mid {A M B : List Ent} {e : Ent} (ha : ∀ x ∈ A, kl x.k e.k) (hb : ∀ x ∈ B, kl e.k x.k) : put (A ++ M ++ B) e = A ++ put M e ++ B := by
  unfold put
  rw [lows_mid ha hb, highs_mid ha hb]
  simp
theorem del_mid {A M B : List Ent} {key : ByteArray} (ha : ∀ x ∈ A, kl x.k key) (hb : ∀ x ∈ B, kl key x.k) : del (A ++ M ++ B) key = A ++ del M key ++ B := by
  unfold del
  rw [lows_mid ha hb, highs_mid ha hb]
  simp
theorem put_nil (e : Ent) : put [] e = [e] := rfl
theorem put_length {l : List Ent} (h : Sorted l) (e : Ent) : (put l e).length = l.length ∨ (put l e).length = l.length + 1 := by
  obtain ⟨i, f, hp⟩ : ∃ i f, Place l e.k i f := by
    by_cases hm : ∃ x ∈ l, x.k = e.k
    · obtain ⟨x, hx, hk⟩ := hm
      obtain ⟨i, hi⟩ := List.getElem?_of_mem hx
      refine ⟨i, true, ⟨by have := (List.getElem?_eq_some_iff.1 hi).1; omega, ⟨fun _ => ⟨x, hi, hk⟩, fun _ => rfl⟩, fun _ j y hj hy => ?_, fun _ j y hj hy => ?_⟩⟩
      · rw [← hk]; exact sorted_lt h hj hy hi
      · rcases Nat.lt_or_ge i j with hij | hij
        · rw [← hk]; exact kl_asymm (sorted_lt h hij hi hy)
        · have : j = i := by omega
          subst this
          rw [hi] at hy
          cases hy
          rw [hk]
          exact kl_irrefl _
    · have hall : ∀ x ∈ l, decide (kl x.k e.k) = !decide (kl e.k x.k) := fun x hx => by
        by_cases h1 : kl x.k e.k
        · rw [decide_eq_true h1, decide_eq_false (kl_asymm h1)]; rfl
        · have h2 : kl e.k x.k := Decidable.byContradiction fun h2 => hm ⟨x, hx, kl_tri h1 h2⟩
          rw [decide_eq_false h1, decide_eq_true h2]; rfl
      refine ⟨(lows l e.k).length, false, ?_⟩
      have hsplit : l = lows l e.k ++ highs l e.k := by
        refine sorted_ext h (sorted_del h e.k) fun x => ?_
        rw [show lows l e.k ++ highs l e.k = del l e.k from rfl, mem_del]
        exact ⟨fun hx => ⟨hx, fun hk => hm ⟨x, hx, hk⟩⟩, fun hx => hx.1⟩
      have hle : (lows l e.k).length ≤ l.length := List.length_filter_le _ _
      refine ⟨hle, ⟨(fun hc => absurd hc (by simp)), fun ⟨x, hx, hk⟩ => absurd ⟨x, List.mem_of_getElem? hx, hk⟩ hm⟩, fun _ j x hj hx => ?_, fun _ j x hj hx => ?_⟩
      · rw [hsplit, List.getElem?_append_left hj] at hx
        exact (mem_lows.1 (List.mem_of_getElem? hx)).2
      · rw [hsplit, List.getElem?_append_right hj] at hx
        exact kl_asymm (mem_highs.1 (List.mem_of_getElem? hx)).2
  rw [← hp.wth h, hp.wth_len]
  cases f
  · exact .inr rfl
  · exact .inl rfl
theorem del_length {l : List Ent} (key : ByteArray) (h : Sorted l) : (del l key).length ≤ l.length := by
  have : del l key = l.filter fun e => decide (e.k ≠ key) := by
    refine sorted_ext (sorted_del h key) (h.filter _) fun e => ?_
    rw [mem_del]
    simp
  rw [this]
  exact List.length_filter_le _ _
/-- A key that there is goes. -/
theorem del_one {l : List Ent} (h : Sorted l) (key : ByteArray) : l.length ≤ (del l key).length + 1 := by
  have h1 := put_length (sorted_del h key) ⟨key, ByteArray.empty⟩
  have h2 := put_length h ⟨key, ByteArray.empty⟩
  have h3 : put (del l key) ⟨key, ByteArray.empty⟩ = put l ⟨key, ByteArray.empty⟩ := put_del l ⟨key, ByteArray.empty⟩
  rw [h3] at h1
  omega
theorem put_same {l : List Ent} (h : Sorted l) {e : Ent} (he : e ∈ l) : put l e = l := by
  refine sorted_ext (sorted_put h e) h fun x => ?_
  rw [mem_put]
  constructor
  · rintro (rfl | ⟨hx, _⟩)
    · exact he
    · exact hx
  · intro hx
    by_cases hk : x.k = e.k
    · exact .inl (sorted_once h hx he hk)
    · exact .inr ⟨hx, hk⟩
theorem del_none {l : List Ent} (h : Sorted l) {key : ByteArray} (hn : ∀ e ∈ l, e.k ≠ key) : del l key = l := by
  refine sorted_ext (sorted_del h key) h fun x => ?_
  rw [mem_del]
  exact ⟨fun hx => hx.1, fun hx => ⟨hx, hn x hx⟩⟩
theorem look_put {l : List Ent} (h : Sorted l) (e : Ent) : look (put l e) e.k = some e.v := look_some (sorted_put h e) (mem_put.2 (.inl rfl))
theorem look_del {l : List Ent} (key : ByteArray) : look (del l key) key = none := look_none fun e he => (mem_del.1 he).2
theorem put_put {l : List Ent} (h : Sorted l) {a b : Ent} (hk : a.k ≠ b.k) : put (put l a) b = put (put l b) a := by
  refine sorted_ext (sorted_put (sorted_put h a) b) (sorted_put (sorted_put h b) a) fun x => ?_
  simp only [mem_put]
  constructor
  · rintro (rfl | ⟨rfl | ⟨h1, h2⟩, h3⟩)
    · exact .inr ⟨.inl rfl, fun e => hk e.symm⟩
    · exact .inl rfl
    · exact .inr ⟨.inr ⟨h1, h3⟩, h2⟩
  · rintro (rfl | ⟨rfl | ⟨h1, h2⟩, h3⟩)
    · exact .inr ⟨.inl rfl, hk⟩
    · exact .inl rfl
    · exact .inr ⟨.inr ⟨h1, h3⟩, h2⟩
theorem put_del_swap {l : List Ent} (h : Sorted l) {a : Ent} {key : ByteArray} (hk : a.k ≠ key) : del (put l a) key = put (del l key) a := by
  refine sorted_ext (sorted_del (sorted_put h a) key) (sorted_put (sorted_del h key) a) fun x => ?_
  simp only [mem_put, mem_del]
  constructor
  · rintro ⟨rfl | ⟨h1, h2⟩, h3⟩
    · exact .inl rfl
    · exact .inr ⟨⟨h1, h3⟩, h2⟩
  · rintro (rfl | ⟨⟨h1, h2⟩, h3⟩)
    · exact ⟨.inl rfl, hk⟩
    · exact ⟨.inr ⟨h1, h3⟩, h2⟩
theorem del_del {l : List Ent} (h : Sorted l) {a b : ByteArray} : del (del l a) b = del (del l b) a := by
  refine sorted_ext (sorted_del (sorted_del h a) b) (sorted_del (sorted_del h b) a) fun x => ?_
  simp only [mem_del]
  constructor
  · rintro ⟨⟨h1, h2⟩, h3⟩; exact ⟨⟨h1, h3⟩, h2⟩
  · rintro ⟨⟨h1, h2⟩, h3⟩; exact ⟨⟨h1, h3⟩, h2⟩

/-- Which numbers are old, and how many may be new. -/
def FewNew (old : List Nat) (m : Nat) (ids : List Nat) : Prop := ∃ new : List Nat, new.length ≤ m ∧ ∀ x ∈ ids, x ∈ old ∨ x ∈ new
theorem FewNew.of {old ids : List Nat} (h : ∀ x ∈ ids, x ∈ old) (m : Nat) : FewNew old m ids := ⟨[], Nat.zero_le _, fun x hx => .inl (h x hx)⟩
theorem FewNew.join {old a b : List Nat} {m n : Nat} (h : FewNew old m a) (k : FewNew old n b) : FewNew old (m + n) (a ++ b) := by
  obtain ⟨p, hp, h⟩ := h
  obtain ⟨q, hq, k⟩ := k
  refine ⟨p ++ q, by rw [List.length_append]; omega, fun x hx => ?_⟩
  rcases List.mem_append.1 hx with hx | hx
  · rcases h x hx with h | h
    · exact .inl h
    · exact .inr (List.mem_append_left _ h)
  · rcases k x hx with h | h
    · exact .inl h
    · exact .inr (List.mem_append_right _ h)
theorem FewNew.sub {old a b : List Nat} {m : Nat} (h : FewNew old m a) (hs : ∀ x ∈ b, x ∈ a) : FewNew old m b := by
  obtain ⟨p, hp, h⟩ := h
  exact ⟨p, hp, fun x hx => h x (hs x hx)⟩
theorem FewNew.more {old a : List Nat} {m n : Nat} (h : FewNew old m a) (hs : m ≤ n) : FewNew old n a := by
  obtain ⟨p, hp, h⟩ := h
  exact ⟨p, by omega, h⟩
theorem FewNew.wide {old old' a : List Nat} {m : Nat} (h : FewNew old m a) (hs : ∀ x ∈ old, x ∈ old') : FewNew old' m a := by
  obtain ⟨p, hp, h⟩ := h
  exact ⟨p, hp, fun x hx => (h x hx).imp (hs x) id⟩
theorem FewNew.new {old a : List Nat} {m : Nat} (h : FewNew old m a) (b : Nat) : FewNew old (m + 1) (b :: a) := by
  obtain ⟨p, hp, h⟩ := h
  refine ⟨b :: p, by simp; omega, fun x hx => ?_⟩
  rcases List.mem_cons.1 hx with rfl | hx
  · exact .inr (List.mem_cons_self ..)
  · exact (h x hx).imp id (List.mem_cons_of_mem _)

end Go.Proofs.Ytkooaechcbopnaa
