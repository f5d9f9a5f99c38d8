/-
  Several texts in one: TreePure, TreeCat, TreeMem, TreeParts, TreeBuild, TreeRepl, TreeJoin, TreeKid. Each says what it proves, and under which conditions.
-/
import Derived.Test.YtelenboncejdaaaGreatDoorK7
import Derived.Lib.AppendZeros

/-
  Trees, without a program: sorted lists by their members, the value of a key, a change in the midst of a list; no condition beyond those stated.
-/
namespace Go.Proofs.YtelenboncejdaaaGreatDoor
open Go.RowKit Go.Sort
set_option linter.unusedVariables false

theorem kl_le_trans {a b c : ByteArray} (h : kl a b) (k : ¬ kl c b) : kl a c := by
  rcases Decidable.em (kl b c) with hb | hb
  · exact kl_trans h hb
  · rw [← kl_tri hb k]; exact h
theorem le_kl_trans {a b c : ByteArray} (h : ¬ kl b a) (k : kl b c) : kl a c := by
  rcases Decidable.em (kl a b) with hb | hb
  · exact kl_trans hb k
  · rw [kl_tri hb h]; exact k

/-- Sorted lists of the same members are the same. -/
theorem sorted_ext : ∀ {l m : List Ent}, Sorted l → Sorted m → (∀ e, e ∈ l ↔ e ∈ m) → l = m
  | [], [], _, _, _ => rfl
  | [], x :: m, _, _, h => absurd ((h x).2 (List.mem_cons_self ..)) (by simp)
  | x :: l, [], _, _, h => absurd ((h x).1 (List.mem_cons_self ..)) (by simp)
  | x :: l, y :: m, hl, hm, h => by
    have hl' := List.pairwise_cons.1 hl
    have hm' := List.pairwise_cons.1 hm
    have hxy : x = y := by
      rcases List.mem_cons.1 ((h x).1 (List.mem_cons_self ..)) with e | hx
      · exact e
      · rcases List.mem_cons.1 ((h y).2 (List.mem_cons_self ..)) with e | hy
        · exact e.symm
        · exact absurd (hm'.1 x hx) (kl_asymm (hl'.1 y hy))
    subst hxy
    rw [sorted_ext hl'.2 hm'.2 fun e => ?_]
    constructor
    · intro he
      rcases List.mem_cons.1 ((h e).1 (List.mem_cons_of_mem _ he)) with rfl | hx
      · exact absurd (hl'.1 e he) (kl_irrefl _)
      · exact hx
    · intro he
      rcases List.mem_cons.1 ((h e).2 (List.mem_cons_of_mem _ he)) with rfl | hx
      · exact absurd (hm'.1 e he) (kl_irrefl _)
      · exact hx
/-- A key stands once. -/
theorem sorted_once {l : List Ent} (h : Sorted l) {a b : Ent} (ha : a ∈ l) (hb : b ∈ l) (hk : a.k = b.k) : a = b := by
  obtain ⟨i, hi⟩ := List.getElem?_of_mem ha
  obtain ⟨j, hj⟩ := List.getElem?_of_mem hb
  rcases Nat.lt_trichotomy i j with hij | hij | hij
  · have := sorted_lt h hij hi hj
    rw [hk] at this
    exact absurd this (kl_irrefl _)
  · subst hij
    rw [hi] at hj
    exact Option.some.inj hj
  · have := sorted_lt h hij hj hi
    rw [hk] at this
    exact absurd this (kl_irrefl _)

/-- The value of a key. -/
def look (l : List Ent) (key : ByteArray) : Option ByteArray := (l.find? fun e => decide (e.k = key)).map (·.v)
theorem look_some {l : List Ent} (h : Sorted l) {e : Ent} (he : e ∈ l) : look l e.k = some e.v := by
  unfold look
  cases hf : l.find? fun x => decide (x.k = e.k) with
  | none => exact absurd (List.find?_eq_none.1 hf e he) (by simp)
  | some x =>
    have h1 := List.find?_some hf
    have h2 := List.mem_of_find?_eq_some hf
    rw [sorted_once h h2 he (by simpa using h1)]
    rfl
theorem look_none {l : List Ent} {key : ByteArray} (h : ∀ e ∈ l, e.k ≠ key) : look l key = none := by
  unfold look
  rw [List.find?_eq_none.2 fun e he => by simpa using h e he]
  rfl
theorem look_none_iff {l : List Ent} {key : ByteArray} : look l key = none ↔ ∀ e ∈ l, e.k ≠ key := by
  refine ⟨fun h e he hk => ?_, look_none⟩
  unfold look at h
  rw [Option.map_eq_none_iff, List.find?_eq_none] at h
  exact h e he (by simpa using hk)
theorem look_mem {l : List Ent} {key v : ByteArray} (h : look l key = some v) : ⟨key, v⟩ ∈ l := by
  unfold look at h
  rw [Option.map_eq_some_iff] at h
  obtain ⟨e, he, rfl⟩ := h
  have h1 : e.k = key := by simpa using List.find?_some he
  subst h1
  exact List.mem_of_find?_eq_some he
theorem look_iff {l : List Ent} (h : Sorted l) {key v : ByteArray} : look l key = some v ↔ ⟨key, v⟩ ∈ l := ⟨look_mem, fun he => look_some h he⟩
theorem look_mid {A M B : List Ent} {key : ByteArray} (ha : ∀ e ∈ A, kl e.k key) (hb : ∀ e ∈ B, kl key e.k) : look (A ++ M ++ B) key = look M key := by
  unfold look
  have h1 : A.find? (fun e => decide (e.k = key)) = none := List.find?_eq_none.2 fun e he hk => kl_irrefl key ((of_decide_eq_true hk) ▸ ha e he)
  have h2 : B.find? (fun e => decide (e.k = key)) = none := List.find?_eq_none.2 fun e he hk => kl_irrefl key ((of_decide_eq_true hk) ▸ hb e he)
  rw [List.find?_append, List.find?_append, h1, h2]
  simp
/-- What a search answers, and the value of the key. -/
theorem Place.look {l : List Ent} {key : ByteArray} {i : Nat} {f : Bool} (h : Place l key i f) (hs : Sorted l) : (f = true ∧ ∃ e, l[i]? = some e ∧ e.k = key ∧ Go.Proofs.YtelenboncejdaaaGreatDoor.look l key = some e.v) ∨ (f = false ∧ Go.Proofs.YtelenboncejdaaaGreatDoor.look l key = none) := by
  cases f with
  | true =>
    obtain ⟨e, he, hk⟩ := h.found.1 rfl
    refine .inl ⟨rfl, e, he, hk, ?_⟩
    rw [← hk]
    exact look_some hs (List.mem_of_getElem? he)
  | false =>
    refine .inr ⟨rfl, look_none fun e he hk => ?_⟩
    have := (h.mem hs).2 ⟨e, he, hk⟩
    cases this

theorem lows_mid {A M B : List Ent} {key : ByteArray} (ha : ∀ e ∈ A, kl e.k key) (hb : ∀ e ∈ B, kl key e.k) : lows (A ++ M ++ B) key = A ++ lows M key := by
  rw [lows_append, lows_append, show lows A key = A from filter_all fun e he => decide_eq_true (ha e he), show lows B key = [] from filter_none fun e he => decide_eq_false (kl_asymm (hb e he)), List.append_nil]
theorem highs_mid {A M B : List Ent} {key : ByteArray} (ha : ∀ e ∈ A, kl e.k key) (hb : ∀ e ∈ B, kl key e.k) : highs (A ++ M ++ B) key = highs M key ++ B := by
  rw [highs_append, highs_append, show highs A key = [] from filter_none fun e he => decide_eq_false (kl_asymm (ha e he)), show highs B key = B from filter_all fun e he => decide_eq_true (hb e he), List.nil_append]
theorem put_mid {A M B : List Ent} {e : Ent} (ha : ∀ x ∈ A, kl x.k e.k) (hb : ∀ x ∈ B, kl e.k x.k) : put (A ++ M ++ B) e = A ++ put M e ++ B := by
  unfold put
  rw [lows_mid ha hb, highs_mid ha hb]
  simp
theorem del_mid {A M B : List Ent} {key : ByteArray} (ha : ∀ x ∈ A, kl x.k key) (hb : ∀ x ∈ B, kl key x.k) : del (A ++ M ++ B) key = A ++ del M key ++ B := by
  unfold del
  rw [lows_mid ha hb, highs_mid ha hb]
  simp
theorem put_nil (e : Ent) : put [] e = [e] := rfl
theorem put_length {l : List Ent} (h : Sorted l) (e : Ent) : (put l e).length = l.length ∨ (put l e).length = l.length + 1 := by
  obtain ⟨i, f, hp⟩ : ∃ i f, Place l e.k i f := by
    by_cases hm : ∃ x ∈ l, x.k = e.k
    · obtain ⟨x, hx, hk⟩ := hm
      obtain ⟨i, hi⟩ := List.getElem?_of_mem hx
      refine ⟨i, true, ⟨by have := (List.getElem?_eq_some_iff.1 hi).1; omega, ⟨fun _ => ⟨x, hi, hk⟩, fun _ => rfl⟩, fun _ j y hj hy => ?_, fun _ j y hj hy => ?_⟩⟩
      · rw [← hk]; exact sorted_lt h hj hy hi
      · rcases Nat.lt_or_ge i j with hij | hij
        · rw [← hk]; exact kl_asymm (sorted_lt h hij hi hy)
        · have : j = i := by omega
          subst this
          rw [hi] at hy
          cases hy
          rw [hk]
          exact kl_irrefl _
    · have hall : ∀ x ∈ l, decide (kl x.k e.k) = !decide (kl e.k x.k) := fun x hx => by
        by_cases h1 : kl x.k e.k
        · rw [decide_eq_true h1, decide_eq_false (kl_asymm h1)]; rfl
        · have h2 : kl e.k x.k := Decidable.byContradiction fun h2 => hm ⟨x, hx, kl_tri h1 h2⟩
          rw [decide_eq_false h1, decide_eq_true h2]; rfl
      refine ⟨(lows l e.k).length, false, ?_⟩
      have hsplit : l = lows l e.k ++ highs l e.k := by
        refine sorted_ext h (sorted_del h e.k) fun x => ?_
        rw [show lows l e.k ++ highs l e.k = del l e.k from rfl, mem_del]
        exact ⟨fun hx => ⟨hx, fun hk => hm ⟨x, hx, hk⟩⟩, fun hx => hx.1⟩
      have hle : (lows l e.k).length ≤ l.length := List.length_filter_le _ _
      refine ⟨hle, ⟨(fun hc => absurd hc (by simp)), fun ⟨x, hx, hk⟩ => absurd ⟨x, List.mem_of_getElem? hx, hk⟩ hm⟩, fun _ j x hj hx => ?_, fun _ j x hj hx => ?_⟩
      · rw [hsplit, List.getElem?_append_left hj] at hx
        exact (mem_lows.1 (List.mem_of_getElem? hx)).2
      · rw [hsplit, List.getElem?_append_right hj] at hx
        exact kl_asymm (mem_highs.1 (List.mem_of_getElem? hx)).2
  rw [← hp.wth h, hp.wth_len]
  cases f
  · exact .inr rfl
  · exact .inl rfl
theorem del_length {l : List Ent} (key : ByteArray) (h : Sorted l) : (del l key).length ≤ l.length := by
  have : del l key = l.filter fun e => decide (e.k ≠ key) := by
    refine sorted_ext (sorted_del h key) (h.filter _) fun e => ?_
    rw [mem_del]
    simp
  rw [this]
  exact List.length_filter_le _ _
/-- A key that there is goes. -/
theorem del_one {l : List Ent} (h : Sorted l) (key : ByteArray) : l.length ≤ (del l key).length + 1 := by
  have h1 := put_length (sorted_del h key) ⟨key, ByteArray.empty⟩
  have h2 := put_length h ⟨key, ByteArray.empty⟩
  have h3 : put (del l key) ⟨key, ByteArray.empty⟩ = put l ⟨key, ByteArray.empty⟩ := put_del l ⟨key, ByteArray.empty⟩
  rw [h3] at h1
  omega
theorem put_same {l : List Ent} (h : Sorted l) {e : Ent} (he : e ∈ l) : put l e = l := by
  refine sorted_ext (sorted_put h e) h fun x => ?_
  rw [mem_put]
  constructor
  · rintro (rfl | ⟨hx, _⟩)
    · exact he
    · exact hx
  · intro hx
    by_cases hk : x.k = e.k
    · exact .inl (sorted_once h hx he hk)
    · exact .inr ⟨hx, hk⟩
theorem del_none {l : List Ent} (h : Sorted l) {key : ByteArray} (hn : ∀ e ∈ l, e.k ≠ key) : del l key = l := by
  refine sorted_ext (sorted_del h key) h fun x => ?_
  rw [mem_del]
  exact ⟨fun hx => hx.1, fun hx => ⟨hx, hn x hx⟩⟩
theorem look_put {l : List Ent} (h : Sorted l) (e : Ent) : look (put l e) e.k = some e.v := look_some (sorted_put h e) (mem_put.2 (.inl rfl))
theorem look_del {l : List Ent} (key : ByteArray) : look (del l key) key = none := look_none fun e he => (mem_del.1 he).2
theorem put_put {l : List Ent} (h : Sorted l) {a b : Ent} (hk : a.k ≠ b.k) : put (put l a) b = put (put l b) a := by
  refine sorted_ext (sorted_put (sorted_put h a) b) (sorted_put (sorted_put h b) a) fun x => ?_
  simp only [mem_put]
  constructor
  · rintro (rfl | ⟨rfl | ⟨h1, h2⟩, h3⟩)
    · exact .inr ⟨.inl rfl, fun e => hk e.symm⟩
    · exact .inl rfl
    · exact .inr ⟨.inr ⟨h1, h3⟩, h2⟩
  · rintro (rfl | ⟨rfl | ⟨h1, h2⟩, h3⟩)
    · exact .inr ⟨.inl rfl, hk⟩
    · exact .inl rfl
    · exact .inr ⟨.inr ⟨h1, h3⟩, h2⟩
theorem put_del_swap {l : List Ent} (h : Sorted l) {a : Ent} {key : ByteArray} (hk : a.k ≠ key) : del (put l a) key = put (del l key) a := by
  refine sorted_ext (sorted_del (sorted_put h a) key) (sorted_put (sorted_del h key) a) fun x => ?_
  simp only [mem_put, mem_del]
  constructor
  · rintro ⟨rfl | ⟨h1, h2⟩, h3⟩
    · exact .inl rfl
    · exact .inr ⟨⟨h1, h3⟩, h2⟩
  · rintro (rfl | ⟨⟨h1, h2⟩, h3⟩)
    · exact ⟨.inl rfl, hk⟩
    · exact ⟨.inr ⟨h1, h3⟩, h2⟩
theorem del_del {l : List Ent} (h : Sorted l) {a b : ByteArray} : del (del l a) b = del (del l b) a := by
  refine sorted_ext (sorted_del (sorted_del h a) b) (sorted_del (sorted_del h b) a) fun x => ?_
  simp only [mem_del]
  constructor
  · rintro ⟨⟨h1, h2⟩, h3⟩; exact ⟨⟨h1, h3⟩, h2⟩
  · rintro ⟨⟨h1, h2⟩, h3⟩; exact ⟨⟨h1, h3⟩, h2⟩

/-- Which numbers are old, and how many may be new. -/
def FewNew (old : List Nat) (m : Nat) (ids : List Nat) : Prop := ∃ new : List Nat, new.length ≤ m ∧ ∀ x ∈ ids, x ∈ old ∨ x ∈ new
theorem FewNew.of {old ids : List Nat} (h : ∀ x ∈ ids, x ∈ old) (m : Nat) : FewNew old m ids := ⟨[], Nat.zero_le _, fun x hx => .inl (h x hx)⟩
theorem FewNew.join {old a b : List Nat} {m n : Nat} (h : FewNew old m a) (k : FewNew old n b) : FewNew old (m + n) (a ++ b) := by
  obtain ⟨p, hp, h⟩ := h
  obtain ⟨q, hq, k⟩ := k
  refine ⟨p ++ q, by rw [List.length_append]; omega, fun x hx => ?_⟩
  rcases List.mem_append.1 hx with hx | hx
  · rcases h x hx with h | h
    · exact .inl h
    · exact .inr (List.mem_append_left _ h)
  · rcases k x hx with h | h
    · exact .inl h
    · exact .inr (List.mem_append_right _ h)
theorem FewNew.sub {old a b : List Nat} {m : Nat} (h : FewNew old m a) (hs : ∀ x ∈ b, x ∈ a) : FewNew old m b := by
  obtain ⟨p, hp, h⟩ := h
  exact ⟨p, hp, fun x hx => h x (hs x hx)⟩
theorem FewNew.more {old a : List Nat} {m n : Nat} (h : FewNew old m a) (hs : m ≤ n) : FewNew old n a := by
  obtain ⟨p, hp, h⟩ := h
  exact ⟨p, by omega, h⟩
theorem FewNew.wide {old old' a : List Nat} {m : Nat} (h : FewNew old m a) (hs : ∀ x ∈ old, x ∈ old') : FewNew old' m a := by
  obtain ⟨p, hp, h⟩ := h
  exact ⟨p, hp, fun x hx => (h x hx).imp (hs x) id⟩
theorem FewNew.new {old a : List Nat} {m : Nat} (h : FewNew old m a) (b : Nat) : FewNew old (m + 1) (b :: a) := by
  obtain ⟨p, hp, h⟩ := h
  refine ⟨b :: p, by simp; omega, fun x hx => ?_⟩
  rcases List.mem_cons.1 hx with rfl | hx
  · exact .inr (List.mem_cons_self ..)
  · exact (h x hx).imp id (List.mem_cons_of_mem _)

end Go.Proofs.YtelenboncejdaaaGreatDoor

/-
  The contracts of slices.Grow (of nil) and slices.Concat, for entries and for pointers to nodes; conditions: the slices can be read, few elements.
-/
namespace Go.Proofs.YtelenboncejdaaaGreatDoor
open Go.RowKit Go.Sort
set_option linter.unusedVariables false

/-- A list of pointers among others: where it lies, its capacity. -/
structure PartP where
  A : Option Addr
  c : Nat
  l : List (Option Nat)
def pallP (ps : List PartP) : List (Option Nat) := ps.flatMap (·.l)
theorem pallP_snoc {ps : List PartP} {k : Nat} {p : PartP} (h : ps[k]? = some p) : pallP (ps.take (k + 1)) = pallP (ps.take k) ++ p.l := by
  rw [List.take_add_one, h]
  simp [pallP]
theorem OwnP.made (w : World) (base c : Nat) (cur : Array Value) (hb : base ≤ w.heap.size) (hc : c ≤ maxLen) (hs : cur.size = c * 1) : OwnP (w.alloc (.cells cur 25)) base (.slice (some ⟨w.heap.size, 0, none⟩) 0 c) [] :=
  ⟨by simp, .inr ⟨w.heap.size, c, cur, rfl, hb, heap_alloc_new w _, Nat.zero_le _, hc, hs, by simp⟩⟩
theorem Own.madeAt (w : World) (base c : Nat) (cur : Array Value) (hb : base ≤ w.heap.size) (hc : c ≤ maxLen) (hs : cur.size = c * 2) : Own (w.alloc (.cells cur 87)) base (.slice (some ⟨w.heap.size, 0, none⟩) 0 c) [] :=
  ⟨rfl, .inr ⟨w.heap.size, c, cur, rfl, hb, heap_alloc_new w _, Nat.zero_le _, hc, hs, by simp [ecells]⟩⟩

set_option maxHeartbeats 800000 in
set_option maxRecDepth 100000 in
theorem growP_any (n : Nat) (w : World) (hb : n ≤ 100000) : Calls Tryz.prog 157 #[.slice none 0 0, .int .i64 (n : Int)] w fun e w' => ∃ v, e = .returned v ∧ OwnP w' w.heap.size v [] ∧ Below w.heap.size w w' := by
  rcases Nat.eq_zero_or_pos n with rfl | hn
  · go_enter Tryz.func157, Tryz.ntmps157
    go_wp2
    go_ret
    exact ⟨_, rfl, OwnL.nil_ _ _ _, Below.refl _ _⟩
  · obtain ⟨i0, hi0, hz0, hz1, hz2⟩ := info_parts ptrInfo
    have hrun := Lib.run_append_nil_zeros (P := Tryz.prog) w 83 3 83 25 i0 _ .i64 .i64 Tryz.underlying83 Tryz.underlying3 hi0 hz0 n hn (by rw [hz1]; omega) (by omega) (by rw [hz2]; omega)
    have hcap := grownCap_le_maxLen w n 0 25 (by simp only [maxLen]; omega)
    have hge := grownCap_ge w n 0 25
    generalize grownCap w n 0 25 = c at *
    obtain ⟨cur, hcur⟩ : ∃ cur, cur = Builtin.zeroCells (.pointer none : Value).cells n ++ Builtin.zeroCells (.pointer none : Value).cells (c - n) := ⟨_, rfl⟩
    have hsz : cur.size = c * 1 := by
      rw [hcur, Array.size_append, size_zeroCells, size_zeroCells, show (.pointer none : Value).cells.size = 1 from rfl, ← Nat.add_mul]
      rw [show n + (c - n) = c by omega]
    rw [← hcur] at hrun
    clear hcur hz0 hz1 hz2 hi0
    have HO := Lib.hid (OwnP.made w.drew w.heap.size c cur (Nat.le_refl _) hcap hsz)
    have hb1 : Below w.heap.size w (w.drew.alloc (.cells cur 25)) := ((Below.refl _ _).drew).alloc (Nat.le_refl _) _
    have HB := Lib.hid hb1
    have HR := Lib.hid hrun
    clear hrun hb1 hsz hge
    go_enter Tryz.func157, Tryz.ntmps157
    go_wp2_with (at_builtin; refine Lib.wpList_append_run _ rfl (.tmp 20) (.tmp 21) 83 3 rfl _ _ rfl rfl _ _ HR.out ?_)
    go_ret
    exact ⟨_, rfl, HO.out, HB.out⟩

set_option maxHeartbeats 800000 in
set_option maxRecDepth 100000 in
theorem concatP_any (ad : Addr) (K c : Nat) (ps : List PartP) (w : World) (hlt : ad.block < w.heap.size) (hK : ps.length = K) (hc : ∀ j p, ps[j]? = some p → w.cell? (ad.add j) = some (.slice p.A p.l.length p.c) ∧ Ls pcP w p.A p.l)
    (hb : (pallP ps).length ≤ 100000) (hKb : K ≤ 100000) :
    Calls Tryz.prog 128 #[.slice (some ad) K c] w fun e w' => ∃ v, e = .returned v ∧ OwnP w' w.heap.size v (pallP ps) ∧ Below w.heap.size w w' := by
  have HK := Lib.hid hK
  have HC := Lib.hid hc
  clear hK hc
  have hsub : ∀ k p, ps[k]? = some p → (pallP (ps.take k)).length + p.l.length ≤ 100000 := by
    intro k p hp
    have h1 := pallP_snoc hp
    have h2 : pallP ps = pallP (ps.take (k + 1)) ++ pallP (ps.drop (k + 1)) := by
      unfold pallP
      rw [← List.flatMap_append, List.take_append_drop]
    rw [h2, h1] at hb
    simp at hb
    omega
  have HS := Lib.hid hsub
  clear hsub
  go_enter Tryz.func128, Tryz.ntmps128
  go_wp2
  go_loop [3, 11] (fun s3 s11 => ∃ k : Nat, k ≤ K ∧ s11 = .int .i64 k ∧ s3 = .int .i64 (pallP (ps.take k)).length) (fun _ s11 => K - (intOf s11).toNat)
  case atStart => exact ⟨0, Nat.zero_le _, rfl, rfl⟩
  case round =>
    obtain ⟨k, hk, rfl, rfl⟩ := hrel
    by_cases hlt : k < K
    · have hkl : k < ps.length := by rw [HK.out]; exact hlt
      obtain ⟨p, hp⟩ : ∃ p, ps[k]? = some p := ⟨_, List.getElem?_eq_getElem hkl⟩
      have hcell := (HC.out k p hp).1
      have hsum := HS.out k p hp
      have hnx := pallP_snoc hp
      have HNX : Hid ((pallP (ps.take (k + 1))).length = (pallP (ps.take k)).length + p.l.length) := Lib.hid (by rw [hnx, List.length_append])
      clear hp hkl hnx
      generalize (pallP (ps.take k)).length = q at *
      have hneg : ¬ ((q : Int) + (p.l.length : Int) < 0) := by omega
      go_wp2
      refine ⟨⟨k + 1, by omega, by go_num, ?_⟩, by simp [intOf]; omega⟩
      rw [HNX.out]
      go_num
    · have he : k = K := by omega
      subst he
      rw [List.take_of_length_le (by rw [HK.out]; exact Nat.le_refl _)]
      obtain ⟨q, hq⟩ : ∃ q, q = (pallP ps).length := ⟨_, rfl⟩
      rw [← hq]
      have hqb : q ≤ 100000 := by omega
      have Hq := Lib.hid hq
      clear hq
      go_wp2_with fail
      refine (growP_any q w hqb).mono ?_
      rintro e w1 ⟨v1, rfl, hown1, hb1⟩
      have Hown := Lib.hid hown1
      have HB1 := Lib.hid hb1
      clear hown1 hb1
      go_wp2
      go_loopw [6, 27] (fun s6 s24 wr => ∃ j : Nat, j ≤ k ∧ s24 = .int .i64 j ∧ OwnP wr w.heap.size s6 (pallP (ps.take j)) ∧ Below w.heap.size w wr) (fun _ s24 _ => k - (intOf s24).toNat)
      case atStart => exact ⟨0, Nat.zero_le _, rfl, Hown.out, HB1.out⟩
      case round =>
        obtain ⟨j, hj, rfl, hown, hbw⟩ := hrel
        by_cases hlt2 : j < k
        · have hkl : j < ps.length := by rw [HK.out]; exact hlt2
          obtain ⟨p, hp⟩ : ∃ p, ps[j]? = some p := ⟨_, List.getElem?_eq_getElem hkl⟩
          obtain ⟨hcell0, hes⟩ := HC.out j p hp
          have hcell := (hbw.cell (by rw [block_of_add]; assumption)).trans hcell0
          have hsum := HS.out j p hp
          have hnx := pallP_snoc hp
          obtain ⟨v', w2, hrun, hown2, hg2⟩ := run_append_ls encP 83 25 83 _ _ ⟨_, Tryz.underlying83, rfl⟩ ptrInfo rfl (by omega) (by omega) hown p.l.length p.c (hes.below hbw) rfl (by omega) hbw.size
          rw [← hnx] at hown2
          have HO := Lib.hid hown2
          have HG := Lib.hid (hown.grow_below hbw hbw.size hg2)
          have HR := Lib.hid hrun
          clear hp hkl hnx hown hown2 hcell0 hg2 hsum hrun
          go_wp2_with (at_builtin; refine wpList_append_ran rfl (.tmp 31) (.tmp 32) 83 rfl _ _ _ _ rfl rfl HR.out ?_)
          exact ⟨⟨j + 1, by omega, by go_num, HO.out, HG.out⟩, by simp [intOf]; omega⟩
        · have he : j = k := by omega
          subst he
          rw [List.take_of_length_le (by rw [HK.out]; exact Nat.le_refl _)] at hown
          have HO := Lib.hid hown
          clear hown
          go_wp2
          go_ret
          exact ⟨_, rfl, HO.out, hbw⟩

set_option maxHeartbeats 800000 in
set_option maxRecDepth 100000 in
theorem growE_any (n : Nat) (w : World) (hb : n ≤ 100000) : Calls Tryz.prog 176 #[.slice none 0 0, .int .i64 (n : Int)] w fun e w' => ∃ v, e = .returned v ∧ Own w' w.heap.size v [] ∧ Below w.heap.size w w' := by
  rcases Nat.eq_zero_or_pos n with rfl | hn
  · go_enter Tryz.func176, Tryz.ntmps176
    go_wp2
    go_ret
    exact ⟨_, rfl, Own.nil_ _ _, Below.refl _ _⟩
  · obtain ⟨i0, hi0, hz0, hz1, hz2⟩ := info_parts einfo
    have hrun := Lib.run_append_nil_zeros (P := Tryz.prog) w 22 3 22 87 i0 _ .i64 .i64 Tryz.underlying22 Tryz.underlying3 hi0 hz0 n hn (by rw [hz1]; omega) (by omega) (by rw [hz2]; omega)
    have hcap := grownCap_le_maxLen w n 0 87 (by simp only [maxLen]; omega)
    have hge := grownCap_ge w n 0 87
    generalize grownCap w n 0 87 = c at *
    obtain ⟨cur, hcur⟩ : ∃ cur, cur = Builtin.zeroCells (.agg #[.string ByteArray.empty, .string ByteArray.empty] : Value).cells n ++ Builtin.zeroCells (.agg #[.string ByteArray.empty, .string ByteArray.empty] : Value).cells (c - n) := ⟨_, rfl⟩
    have hsz : cur.size = c * 2 := by
      rw [hcur, Array.size_append, size_zeroCells, size_zeroCells, show (.agg #[.string ByteArray.empty, .string ByteArray.empty] : Value).cells.size = 2 from rfl, ← Nat.add_mul]
      rw [show n + (c - n) = c by omega]
    rw [← hcur] at hrun
    clear hcur hz0 hz1 hz2 hi0
    have HO := Lib.hid (Own.madeAt w.drew w.heap.size c cur (Nat.le_refl _) hcap hsz)
    have hb1 : Below w.heap.size w (w.drew.alloc (.cells cur 87)) := ((Below.refl _ _).drew).alloc (Nat.le_refl _) _
    have HB := Lib.hid hb1
    have HR := Lib.hid hrun
    clear hrun hb1 hsz hge
    go_enter Tryz.func176, Tryz.ntmps176
    go_wp2_with (at_builtin; refine Lib.wpList_append_run _ rfl (.tmp 20) (.tmp 21) 22 3 rfl _ _ rfl rfl _ _ HR.out ?_)
    go_ret
    exact ⟨_, rfl, HO.out, HB.out⟩

set_option maxHeartbeats 800000 in
set_option maxRecDepth 100000 in
theorem concatE_any (ad : Addr) (K c : Nat) (ps : List Part) (w : World) (hlt : ad.block < w.heap.size) (hK : ps.length = K) (hc : ∀ j p, ps[j]? = some p → w.cell? (ad.add j) = some (.slice p.A p.l.length p.c) ∧ Es w p.A p.l)
    (hb : (pall ps).length ≤ 100000) (hKb : K ≤ 100000) :
    Calls Tryz.prog 155 #[.slice (some ad) K c] w fun e w' => ∃ v, e = .returned v ∧ Own w' w.heap.size v (pall ps) ∧ Below w.heap.size w w' := by
  have HK := Lib.hid hK
  have HC := Lib.hid hc
  clear hK hc
  have hsub : ∀ k p, ps[k]? = some p → (pall (ps.take k)).length + p.l.length ≤ 100000 := by
    intro k p hp
    have h1 := pall_snoc hp
    have h2 : pall ps = pall (ps.take (k + 1)) ++ pall (ps.drop (k + 1)) := by
      unfold pall
      rw [← List.flatMap_append, List.take_append_drop]
    rw [h2, h1] at hb
    simp at hb
    omega
  have HS := Lib.hid hsub
  clear hsub
  go_enter Tryz.func155, Tryz.ntmps155
  go_wp2
  go_loop [3, 11] (fun s3 s11 => ∃ k : Nat, k ≤ K ∧ s11 = .int .i64 k ∧ s3 = .int .i64 (pall (ps.take k)).length) (fun _ s11 => K - (intOf s11).toNat)
  case atStart => exact ⟨0, Nat.zero_le _, rfl, rfl⟩
  case round =>
    obtain ⟨k, hk, rfl, rfl⟩ := hrel
    by_cases hlt : k < K
    · have hkl : k < ps.length := by rw [HK.out]; exact hlt
      obtain ⟨p, hp⟩ : ∃ p, ps[k]? = some p := ⟨_, List.getElem?_eq_getElem hkl⟩
      have hcell := (HC.out k p hp).1
      have hsum := HS.out k p hp
      have hnx := pall_snoc hp
      have HNX : Hid ((pall (ps.take (k + 1))).length = (pall (ps.take k)).length + p.l.length) := Lib.hid (by rw [hnx, List.length_append])
      clear hp hkl hnx
      generalize (pall (ps.take k)).length = q at *
      have hneg : ¬ ((q : Int) + (p.l.length : Int) < 0) := by omega
      go_wp2
      refine ⟨⟨k + 1, by omega, by go_num, ?_⟩, by simp [intOf]; omega⟩
      rw [HNX.out]
      go_num
    · have he : k = K := by omega
      subst he
      rw [List.take_of_length_le (by rw [HK.out]; exact Nat.le_refl _)]
      obtain ⟨q, hq⟩ : ∃ q, q = (pall ps).length := ⟨_, rfl⟩
      rw [← hq]
      have hqb : q ≤ 100000 := by omega
      have Hq := Lib.hid hq
      clear hq
      go_wp2_with fail
      refine (growE_any q w hqb).mono ?_
      rintro e w1 ⟨v1, rfl, hown1, hb1⟩
      have Hown := Lib.hid hown1
      have HB1 := Lib.hid hb1
      clear hown1 hb1
      go_wp2
      go_loopw [6, 27] (fun s6 s24 wr => ∃ j : Nat, j ≤ k ∧ s24 = .int .i64 j ∧ Own wr w.heap.size s6 (pall (ps.take j)) ∧ Below w.heap.size w wr) (fun _ s24 _ => k - (intOf s24).toNat)
      case atStart => exact ⟨0, Nat.zero_le _, rfl, Hown.out, HB1.out⟩
      case round =>
        obtain ⟨j, hj, rfl, hown, hbw⟩ := hrel
        by_cases hlt2 : j < k
        · have hkl : j < ps.length := by rw [HK.out]; exact hlt2
          obtain ⟨p, hp⟩ : ∃ p, ps[j]? = some p := ⟨_, List.getElem?_eq_getElem hkl⟩
          obtain ⟨hcell0, hes⟩ := HC.out j p hp
          have hcell := (hbw.cell (by rw [block_of_add]; assumption)).trans hcell0
          have hsum := HS.out j p hp
          have hnx := pall_snoc hp
          obtain ⟨v', w2, hrun, hown2, hg2⟩ := run_append_ents 22 hown p.l.length p.c (hes.below hbw) rfl (by omega) hbw.size
          rw [← hnx] at hown2
          have HO := Lib.hid hown2
          have HG := Lib.hid (hown.grow_below hbw hbw.size hg2)
          have HR := Lib.hid hrun
          clear hp hkl hnx hown hown2 hcell0 hg2 hsum hrun
          go_wp2_with (at_builtin; refine wpList_append_ran rfl (.tmp 31) (.tmp 32) 22 rfl _ _ _ _ rfl rfl HR.out ?_)
          exact ⟨⟨j + 1, by omega, by go_num, HO.out, HG.out⟩, by simp [intOf]; omega⟩
        · have he : j = k := by omega
          subst he
          rw [List.take_of_length_le (by rw [HK.out]; exact Nat.le_refl _)] at hown
          have HO := Lib.hid hown
          clear hown
          go_wp2
          go_ret
          exact ⟨_, rfl, HO.out, hbw⟩

end Go.Proofs.YtelenboncejdaaaGreatDoor

/-
  Trees as they lie in memory: a subtree with its entries and its nodes' blocks, the kid for a key, what a node is made of; conditions stand at each.
-/
namespace Go.Proofs.YtelenboncejdaaaGreatDoor
open Go.RowKit Go.Sort
set_option linter.unusedVariables false

/-- A subtree: its root's block, the root's box, its entries, the blocks of its nodes. -/
structure ST where
  b : Nat
  N : NR
  l : List Ent
  ids : List Nat
def nbs (ks : List ST) : List (Nat × NR) := ks.map fun k => (k.b, k.N)
def flat (ks : List ST) : List Ent := ks.flatMap (·.l)
def idsOf (ks : List ST) : List Nat := ks.flatMap (·.ids)
def ST.good (k : ST) : Bool := goodK k.N.kr
theorem nbs_len (ks : List ST) : (nbs ks).length = ks.length := by simp [nbs]
theorem nbs_at {ks : List ST} {i : Nat} {k : ST} (h : ks[i]? = some k) : (nbs ks)[i]? = some (k.b, k.N) := by simp [nbs, h]
theorem nbs_inv {ks : List ST} {i : Nat} {x : Nat × NR} (h : (nbs ks)[i]? = some x) : ∃ k, ks[i]? = some k ∧ x = (k.b, k.N) := by
  simp only [nbs, List.getElem?_map, Option.map_eq_some_iff] at h
  obtain ⟨k, hk, rfl⟩ := h
  exact ⟨k, hk, rfl⟩
theorem nbs_append (a b : List ST) : nbs (a ++ b) = nbs a ++ nbs b := by simp [nbs]
theorem ptrs_append (a b : List (Nat × NR)) : ptrs (a ++ b) = ptrs a ++ ptrs b := by simp [ptrs]
theorem flat_append (a b : List ST) : flat (a ++ b) = flat a ++ flat b := by simp [flat]
theorem idsOf_append (a b : List ST) : idsOf (a ++ b) = idsOf a ++ idsOf b := by simp [idsOf]
/-- Pointers to the roots. -/
def ptrS (ks : List ST) : List (Option Nat) := ptrs (nbs ks)
theorem ptrS_len (ks : List ST) : (ptrS ks).length = ks.length := by simp [ptrS, ptrs, nbs]
theorem ptrS_append (a b : List ST) : ptrS (a ++ b) = ptrS a ++ ptrS b := by simp [ptrS, nbs_append, ptrs_append]
theorem ptrS_take (a : List ST) (n : Nat) : ptrS (a.take n) = (ptrS a).take n := by simp [ptrS, nbs, ptrs, List.map_take]
theorem ptrS_drop (a : List ST) (n : Nat) : ptrS (a.drop n) = (ptrS a).drop n := by simp [ptrS, nbs, ptrs, List.map_drop]
theorem ptrS_at {ks : List ST} {i : Nat} {k : ST} (h : ks[i]? = some k) : (ptrS ks)[i]? = some (some k.b) := ptrs_at (nbs_at h)

/-- A valid tree in memory, by its level: a leaf is of level 0; its nodes below the root are sufficiently filled. -/
def Tr (w : World) : Nat → ST → Prop
  | 0, s => NodeAt w s.b s.N ∧ LeafR s.N s.l ∧ Es w s.N.ea s.l ∧ okLeaf s.l = true ∧ s.ids = [s.b]
  | h + 1, s => ∃ ks : List ST, NodeAt w s.b s.N ∧ BranchR s.N (nbs ks) ∧ Ls pcP w s.N.ka (ptrS ks) ∧ 2 ≤ ks.length ∧ ks.length ≤ 6 ∧ Sorted s.l ∧ (∀ k ∈ ks, Tr w h k ∧ k.good = true) ∧ s.l = flat ks ∧ s.ids = s.b :: idsOf ks
section
variable {w w' : World} {h : Nat} {s : ST}
theorem Tr.at_ (t : Tr w h s) : NodeAt w s.b s.N := by
  cases h with
  | zero => exact t.1
  | succ h => obtain ⟨ks, t, _⟩ := t; exact t
theorem Tr.below : ∀ {h : Nat} {s : ST}, Tr w h s → Below w.heap.size w w' → Tr w' h s
  | 0, s, t, hb => ⟨t.1.below hb, t.2.1, t.2.2.1.below hb, t.2.2.2⟩
  | h + 1, s, ⟨ks, t1, t2, t3, t4, t5, t6, t7, t8⟩, hb => ⟨ks, t1.below hb, t2, t3.below hb, t4, t5, t6, fun k hk => ⟨(t7 k hk).1.below hb, (t7 k hk).2⟩, t8⟩
theorem Tr.lt (t : Tr w h s) : s.b < w.heap.size := t.at_.lt
theorem Tr.sorted (t : Tr w h s) : Sorted s.l := by
  cases h with
  | zero => exact okLeaf_sorted t.2.2.2.1
  | succ h => obtain ⟨ks, _, _, _, _, _, t, _⟩ := t; exact t
theorem Tr.high : ∀ {h : Nat} {s : ST}, Tr w h s → s.N.h = h + 1
  | 0, s, t => t.2.1.h
  | h + 1, s, ⟨ks, t1, t2, t3, t4, t5, t6, t7, t8⟩ => by
    have hk : ks[0]? = some ks[0] := List.getElem?_eq_getElem (by omega)
    rw [t2.h _ (nbs_at hk), (t7 _ (List.mem_of_getElem? hk)).1.high]
theorem Tr.lk (t : Tr w h s) : s.N.lk = false := by
  cases h with
  | zero => exact t.2.1.lk
  | succ h =>
    obtain ⟨ks, t1, t2, t3, t4, t5, t6, t7, t8⟩ := t
    rw [t2.lk, show (krs (nbs ks)).all goodK = true from List.all_eq_true.2 fun x hx => ?_]
    · rfl
    · simp only [krs, nbs, List.map_map, List.mem_map, Function.comp] at hx
      obtain ⟨k, hk, rfl⟩ := hx
      exact (t7 k hk).2
theorem Tr.okE : ∀ {h : Nat} {s : ST}, Tr w h s → ∀ e ∈ s.l, okE e = true
  | 0, s, t => by
    have := t.2.2.2.1
    simp only [okLeaf, Bool.and_eq_true] at this
    exact List.all_eq_true.1 this.1.2
  | h + 1, s, ⟨ks, t1, t2, t3, t4, t5, t6, t7, t8, _⟩ => by
    intro e he
    rw [t8] at he
    obtain ⟨k, hk, he⟩ := List.mem_flatMap.1 he
    exact (t7 k hk).1.okE e he
theorem flat_len_ge {ks : List ST} {m : Nat} (hk : ∀ k ∈ ks, m ≤ k.l.length) : ks.length * m ≤ (flat ks).length := by
  induction ks with
  | nil => simp [flat]
  | cons k ks ih =>
    have h1 := hk k (List.mem_cons_self ..)
    have h2 := ih fun x hx => hk x (List.mem_cons_of_mem _ hx)
    rw [show flat (k :: ks) = k.l ++ flat ks from rfl, List.length_append, List.length_cons, Nat.add_mul]
    omega
theorem Tr.len : ∀ {h : Nat} {s : ST}, Tr w h s → h + 1 ≤ s.l.length
  | 0, s, t => (okLeaf_len t.2.2.2.1).1
  | h + 1, s, ⟨ks, t1, t2, t3, t4, t5, t6, t7, t8, _⟩ => by
    have h1 := flat_len_ge (ks := ks) (m := h + 1) fun k hk => (t7 k hk).1.len
    have h2 : 2 * (h + 1) ≤ ks.length * (h + 1) := Nat.mul_le_mul_right _ t4
    rw [t8]
    omega
theorem flat_len_mem {ks : List ST} {k : ST} (hk : k ∈ ks) : k.l.length ≤ (flat ks).length := by
  obtain ⟨a, b, rfl⟩ := List.append_of_mem hk
  rw [flat_append, List.length_append, show flat (k :: b) = k.l ++ flat b from rfl, List.length_append]
  omega
/-- How many entries, or kids, the root has. -/
def ST.size (s : ST) : Nat := s.N.en + s.N.kn
theorem Tr.size_le (t : Tr w h s) : 1 ≤ s.size ∧ s.size ≤ 6 ∧ s.N.en ≤ 6 ∧ s.N.kn ≤ 6 := by
  unfold ST.size
  cases h with
  | zero =>
    have := okLeaf_len t.2.2.2.1
    rw [t.2.1.en, t.2.1.kn]
    omega
  | succ h =>
    obtain ⟨ks, t1, t2, t3, t4, t5, t6, t7, t8⟩ := t
    rw [t2.en, t2.kn, nbs_len]
    omega
theorem Tr.good_iff (t : Tr w h s) : s.good = decide ((if h = 0 then 2 else 3) ≤ s.size) := by
  unfold ST.good goodK NR.kr ST.size
  simp only [t.lk, t.high, Bool.not_false, Bool.true_and]
  have : (if h + 1 = 1 then 2 else 3) = if h = 0 then 2 else 3 := by
    by_cases h0 : h = 0
    · rw [if_pos (by omega), if_pos h0]
    · rw [if_neg (by omega), if_neg h0]
  rw [this]
/-- The first and the last entry. -/
theorem Tr.first : ∀ {h : Nat} {s : ST}, Tr w h s → ∃ e r, s.l = e :: r ∧ s.N.lo = e.k
  | 0, s, t => by
    have h1 := (okLeaf_len t.2.2.2.1).1
    have h2 := t.2.1.lo
    cases hl : s.l with
    | nil => rw [hl] at h1; simp at h1
    | cons e r => exact ⟨e, r, rfl, h2 e (by rw [hl]; rfl)⟩
  | h + 1, s, ⟨ks, t1, t2, t3, t4, t5, t6, t7, t8, _⟩ => by
    cases ks with
    | nil => simp at t4
    | cons k ks =>
      obtain ⟨e, r, hl, he⟩ := (t7 k (List.mem_cons_self ..)).1.first
      refine ⟨e, r ++ flat ks, ?_, ?_⟩
      · rw [t8, show flat (k :: ks) = k.l ++ flat ks from rfl, hl]
        rfl
      · rw [t2.lo (k.b, k.N) rfl, ← he]
theorem Tr.last : ∀ {h : Nat} {s : ST}, Tr w h s → ∃ r e, s.l = r ++ [e] ∧ s.N.hi = e.k
  | 0, s, t => by
    have h1 := (okLeaf_len t.2.2.2.1).1
    have h2 := t.2.1.hi
    have hne : s.l ≠ [] := fun h => by rw [h] at h1; simp at h1
    refine ⟨s.l.dropLast, s.l.getLast hne, (List.dropLast_concat_getLast hne).symm, h2 _ ?_⟩
    rw [← List.getLast?_eq_getElem?, List.getLast?_eq_some_getLast hne]
  | h + 1, s, ⟨ks, t1, t2, t3, t4, t5, t6, t7, t8, _⟩ => by
    have hne : ks ≠ [] := fun h => by rw [h] at t4; simp at t4
    obtain ⟨a, k, rfl⟩ : ∃ a k, ks = a ++ [k] := ⟨_, _, (List.dropLast_concat_getLast hne).symm⟩
    obtain ⟨r, e, hl, he⟩ := (t7 k (by simp)).1.last
    refine ⟨flat a ++ r, e, ?_, ?_⟩
    · rw [t8, flat_append, show flat [k] = k.l ++ [] from rfl, hl]
      simp
    · rw [t2.hi (k.b, k.N) (by simp [nbs]), ← he]
theorem Tr.lo_le (t : Tr w h s) {e : Ent} (he : e ∈ s.l) : ¬ kl e.k s.N.lo := by
  obtain ⟨x, r, hl, hx⟩ := t.first
  have hs := t.sorted
  rw [hl] at he hs
  rw [hx]
  rcases List.mem_cons.1 he with rfl | he
  · exact kl_irrefl _
  · exact kl_asymm ((List.pairwise_cons.1 hs).1 e he)
theorem Tr.lo_mem (t : Tr w h s) : ∃ e ∈ s.l, e.k = s.N.lo := by
  obtain ⟨x, r, hl, hx⟩ := t.first
  exact ⟨x, by rw [hl]; exact List.mem_cons_self .., hx.symm⟩
theorem Tr.hi_mem (t : Tr w h s) : ∃ e ∈ s.l, e.k = s.N.hi := by
  obtain ⟨r, x, hl, hx⟩ := t.last
  exact ⟨x, by rw [hl]; simp, hx.symm⟩
theorem Tr.own (t : Tr w h s) : s.b ∈ s.ids := by
  cases h with
  | zero => rw [t.2.2.2.2]; simp
  | succ h => obtain ⟨ks, _, _, _, _, _, _, _, _, t⟩ := t; rw [t]; simp
end

/-- Keys rise from kid to kid. -/
theorem flat_cross {ks : List ST} (hs : Sorted (flat ks)) {i j : Nat} {a b : ST} (hij : i < j) (ha : ks[i]? = some a) (hb : ks[j]? = some b) {x y : Ent} (hx : x ∈ a.l) (hy : y ∈ b.l) : kl x.k y.k := by
  have hi := (List.getElem?_eq_some_iff.1 ha).1
  have e : ks = ks.take j ++ ks.drop j := (List.take_append_drop j ks).symm
  rw [e, flat_append] at hs
  refine (List.pairwise_append.1 hs).2.2 x (List.mem_flatMap.2 ⟨a, ?_, hx⟩) y (List.mem_flatMap.2 ⟨b, ?_, hy⟩)
  · exact List.mem_of_getElem? (i := i) (by rw [List.getElem?_take_of_lt hij]; exact ha)
  · exact List.mem_of_getElem? (i := 0) (by rw [List.getElem?_drop, Nat.add_zero]; exact hb)
theorem krs_ok {w : World} {h : Nat} {ks : List ST} (hk : ∀ k ∈ ks, Tr w h k ∧ k.good = true) (hs : Sorted (flat ks)) (h2 : 2 ≤ ks.length) (h6 : ks.length ≤ 6) : okBr (krs (nbs ks)) = true := by
  refine okBr_good (by rw [krs_len, nbs_len]; exact h2) (by rw [krs_len, nbs_len]; exact h6) fun j a b ha hb => ?_
  obtain ⟨x, hx, rfl⟩ := krs_inv ha
  obtain ⟨y, hy, rfl⟩ := krs_inv hb
  obtain ⟨p, hp, rfl⟩ := nbs_inv hx
  obtain ⟨q, hq, rfl⟩ := nbs_inv hy
  have tp := (hk p (List.mem_of_getElem? hp)).1
  have tq := (hk q (List.mem_of_getElem? hq)).1
  refine ⟨?_, ?_⟩
  · show p.N.h = q.N.h
    rw [tp.high, tq.high]
  · show kl p.N.hi q.N.lo
    obtain ⟨e, he, e1⟩ := tp.hi_mem
    obtain ⟨f, hf, f1⟩ := tq.lo_mem
    rw [← e1, ← f1]
    exact flat_cross hs (Nat.lt_succ_self j) hp hq he hf
theorem all_of {w : World} {h : Nat} {ks : List ST} (hk : ∀ k ∈ ks, Tr w h k ∧ k.good = true) : All w (nbs ks) := fun x hx => by
  simp only [nbs, List.mem_map] at hx
  obtain ⟨k, hk1, rfl⟩ := hx
  exact (hk k hk1).1.at_
theorem tame_of {w : World} {h : Nat} {ks : List ST} (hk : ∀ k ∈ ks, Tr w h k ∧ k.good = true) (hh : h ≤ 100000) : Tame (nbs ks) := fun x hx => by
  simp only [nbs, List.mem_map] at hx
  obtain ⟨k, hk1, rfl⟩ := hx
  have t := (hk k hk1).1
  have := t.size_le
  simp only [t.high]
  omega

/-- The kid for a key. -/
structure Kid (ks : List ST) (key : ByteArray) (i : Nat) : Prop where
  lt : i < ks.length
  le : i = 0 ∨ ∀ k, ks[i]? = some k → ¬ kl key k.N.lo
  gt : ∀ j k, i < j → ks[j]? = some k → kl key k.N.lo
theorem Kid.unique {ks : List ST} {key : ByteArray} {i j : Nat} (h : Kid ks key i) (k : Kid ks key j) : i = j := by
  have hi := List.getElem?_eq_getElem h.lt
  have hj := List.getElem?_eq_getElem k.lt
  rcases Nat.lt_trichotomy i j with hij | hij | hij
  · rcases k.le with h0 | hl
    · omega
    · exact absurd (h.gt j _ hij hj) (hl _ hj)
  · exact hij
  · rcases h.le with h0 | hl
    · omega
    · exact absurd (k.gt i _ hij hi) (hl _ hi)
theorem Kid.split {w : World} {h : Nat} {ks : List ST} {key : ByteArray} {i : Nat} (hi : Kid ks key i) (hk : ∀ k ∈ ks, Tr w h k ∧ k.good = true) (hs : Sorted (flat ks)) :
    ∃ k, ks[i]? = some k ∧ ks = ks.take i ++ [k] ++ ks.drop (i + 1) ∧ (∀ e ∈ flat (ks.take i), kl e.k key) ∧ (∀ e ∈ flat (ks.drop (i + 1)), kl key e.k) := by
  have hki := List.getElem?_eq_getElem hi.lt
  have hlt := hi.lt
  refine ⟨ks[i], hki, ?_, fun e he => ?_, fun e he => ?_⟩
  · rw [List.append_assoc, List.singleton_append, ← List.drop_eq_getElem_cons hi.lt, List.take_append_drop]
  · obtain ⟨a, ha, he⟩ := List.mem_flatMap.1 he
    obtain ⟨j, hj⟩ := List.getElem?_of_mem ha
    have hji : j < i := by
      have := (List.getElem?_eq_some_iff.1 hj).1
      rw [List.length_take] at this
      omega
    rw [List.getElem?_take_of_lt hji] at hj
    rcases hi.le with h0 | hl
    · omega
    · obtain ⟨f, hf, f1⟩ := (hk _ (List.mem_of_getElem? hki)).1.lo_mem
      have h1 := flat_cross hs hji hj hki he hf
      rw [f1] at h1
      exact kl_le_trans h1 (hl _ hki)
  · obtain ⟨a, ha, he⟩ := List.mem_flatMap.1 he
    obtain ⟨j, hj⟩ := List.getElem?_of_mem ha
    rw [List.getElem?_drop] at hj
    have h1 := hi.gt _ a (by omega) hj
    exact kl_le_trans h1 ((hk a (List.mem_of_getElem? hj)).1.lo_le he)

/-- Parts of a node as a value. -/
def Pt (w : World) (v : Value) (l : List Ent) (p : List (Option Nat)) : Prop :=
  ∃ A c B d, v = .agg #[.slice A l.length c, .slice B p.length d] ∧ l.length ≤ c ∧ p.length ≤ d ∧ Es w A l ∧ Ls pcP w B p
theorem Pt.below {w w' : World} {v : Value} {l : List Ent} {p : List (Option Nat)} (h : Pt w v l p) (hb : Below w.heap.size w w') : Pt w' v l p := by
  obtain ⟨A, c, B, d, h1, h2, h3, h4, h5⟩ := h
  exact ⟨A, c, B, d, h1, h2, h3, h4.below hb, h5.below hb⟩
/-- Parts of a node of a level: its entries, how many elements, whose nodes. -/
def Parts (w : World) : Nat → Value → List Ent → Nat → List Nat → Nat → Prop
  | 0, v, l, n, old, m => Pt w v l [] ∧ l.length = n
  | h + 1, v, l, n, old, m => ∃ ks : List ST, Pt w v [] (ptrS ks) ∧ ks.length = n ∧ (∀ k ∈ ks, Tr w h k ∧ k.good = true) ∧ flat ks = l ∧ FewNew old m (idsOf ks)
theorem Parts.below {w w' : World} {h : Nat} {v : Value} {l : List Ent} {n m : Nat} {old : List Nat} (hp : Parts w h v l n old m) (hb : Below w.heap.size w w') : Parts w' h v l n old m := by
  cases h with
  | zero => exact ⟨hp.1.below hb, hp.2⟩
  | succ h =>
    obtain ⟨ks, h1, h2, h3, h4⟩ := hp
    exact ⟨ks, h1.below hb, h2, fun k hk => ⟨(h3 k hk).1.below hb, (h3 k hk).2⟩, h4⟩
theorem Parts.more {w : World} {h : Nat} {v : Value} {l : List Ent} {n m m' : Nat} {old : List Nat} (hp : Parts w h v l n old m) (hb : m ≤ m') : Parts w h v l n old m' := by
  cases h with
  | zero => exact hp
  | succ h =>
    obtain ⟨ks, h1, h2, h3, h4, h5⟩ := hp
    exact ⟨ks, h1, h2, h3, h4, h5.more hb⟩
theorem Parts.wide {w : World} {h : Nat} {v : Value} {l : List Ent} {n m : Nat} {old old' : List Nat} (hp : Parts w h v l n old m) (hb : ∀ x ∈ old, x ∈ old') : Parts w h v l n old' m := by
  cases h with
  | zero => exact hp
  | succ h =>
    obtain ⟨ks, h1, h2, h3, h4, h5⟩ := hp
    exact ⟨ks, h1, h2, h3, h4, h5.wide hb⟩

end Go.Proofs.YtelenboncejdaaaGreatDoor

/-
  The contracts of package tree's small functions of parts: partsOf, ofLeaf, enough, join; conditions stand at each.
-/

namespace Go.Proofs.YtelenboncejdaaaGreatDoor
open Go.RowKit Go.Sort
set_option linter.unusedVariables false

/-- A box of two cells, stored into. -/
theorem set_two {w : World} {b : Nat} {t : TypeId} {u0 v0 : Value} (h : w.heap[b]? = some (.cells #[u0, v0] t (0, 0))) (u v : Value) :
    ((w.setCell ⟨b, 0, none⟩ u).setCell ⟨b, 1, none⟩ v).heap[b]? = some (.cells #[u, v] t (0, 0)) := blk_set (blk_set h 0 u) 1 v
abbrev World.two (w : World) (g : Nat) (u v : Value) : World := (w.setCell ⟨g, 0, none⟩ u).setCell ⟨g, 1, none⟩ v
theorem two_other (w : World) (g : Nat) (u v : Value) (i : Nat) (hi : i ≠ g) : (World.two w g u v).heap[i]? = w.heap[i]? := by
  rw [World.two, Below.heap_setCell _ _ _ _ hi, Below.heap_setCell _ _ _ _ hi]
theorem two_size (w : World) (g : Nat) (u v : Value) : (World.two w g u v).heap.size = w.heap.size := by simp [World.two, World.setCell]
theorem two_below {B : Nat} {a w : World} (h : Below B a w) {g : Nat} (hg : B ≤ g) (u v : Value) : Below B a (World.two w g u v) := (h.setCell (p := ⟨g, 0, none⟩) hg u).setCell (p := ⟨g, 1, none⟩) hg v
theorem two_cell (w : World) (g : Nat) (u v : Value) (a : Addr) (ha : a.block ≠ g) : (World.two w g u v).cell? a = w.cell? a := by
  unfold World.cell?
  rw [two_other w g u v _ ha]
theorem Es.two {w : World} {A : Option Addr} {l : List Ent} (h : Es w A l) {g : Nat} (hA : ∀ ad, A = some ad → ad.block ≠ g) (u v : Value) : Es (World.two w g u v) A l := fun h0 => by
  obtain ⟨ad, e, hlt, hc⟩ := h h0
  exact ⟨ad, e, by rw [two_size]; exact hlt, fun j x hx => (two_cell w g u v _ (by rw [block_of_add]; exact hA ad e)).trans (hc j x hx)⟩
theorem Ls.two {α : Type} {f : α → List Value} {w : World} {A : Option Addr} {l : List α} (h : Ls f w A l) {g : Nat} (hA : ∀ ad, A = some ad → ad.block ≠ g) (u v : Value) : Ls f (World.two w g u v) A l := fun h0 => by
  obtain ⟨ad, e, hlt, hc⟩ := h h0
  exact ⟨ad, e, by rw [two_size]; exact hlt, fun j x hx => (two_cell w g u v _ (by rw [block_of_add]; exact hA ad e)).trans (hc j x hx)⟩
theorem below_two {w : World} {B g : Nat} {a : World} (h : Below B a w) (hg : B ≤ g) : ∀ u v, Below B a (World.two w g u v) := fun u v => two_below h hg u v

set_option maxHeartbeats 1000000 in
set_option maxRecDepth 100000 in
theorem partsOf_pt {w : World} {b : Nat} {N : NR} (hN : NodeAt w b N) {l : List Ent} {p : List (Option Nat)} (he : Es w N.ea l) (hl : l.length = N.en) (hp : Ls pcP w N.ka p) (hpl : p.length = N.kn) (h1 : N.en ≤ 1000) (h2 : N.kn ≤ 1000) :
    Calls Tryz.prog 90 #[pn b] w fun e w' => ∃ v, e = .returned v ∧ Pt w' v l p ∧ Below w.heap.size w w' := by
  have HN := Lib.hid hN
  have HE := Lib.hid he
  have HL := Lib.hid hl
  have HP := Lib.hid hp
  have HPL := Lib.hid hpl
  clear hN he hl hp hpl
  go_enter Tryz.func90, Tryz.ntmps90
  go_wp2_with fail
  have hb0 : Below w.heap.size w (w.alloc (.cells #[.slice none 0 0, .slice none 0 0] 154)) := (Below.refl _ _).alloc (Nat.le_refl _) _
  have hsz : (w.alloc (.cells #[.slice none 0 0, .slice none 0 0] 154)).heap.size = w.heap.size + 1 := by simp
  refine (entries_any (HN.out.below hb0) (HE.out.below hb0) HL.out (by omega)).mono ?_
  rintro e w1 ⟨v1, rfl, ho1, hb1⟩
  obtain ⟨A1, c1, rfl, hc1, hes1⟩ := ho1.form
  go_wp2_with fail
  have hb01 := bthen hb0 hb1
  refine (kids_any (HN.out.below hb01) (HP.out.below hb01) HPL.out (by omega)).mono ?_
  rintro e w2 ⟨v2, rfl, ho2, hb2⟩
  obtain ⟨A2, c2, rfl, hc2, hls2⟩ := ho2.form
  have hblk : w2.heap[w.heap.size]? = some (.cells #[.slice none 0 0, .slice none 0 0] 154 (0, 0)) := (hb2.block _ (Nat.lt_of_lt_of_le (by simp) hb1.size)).trans ((hb1.block _ (by simp)).trans (heap_alloc_new w _))
  have HA1 := Lib.hid (show ∀ ad, A1 = some ad → ad.block ≠ w.heap.size from fun ad e => by have := (ho1.addr_ge ad e).1; omega)
  have HA2 := Lib.hid (show ∀ ad, A2 = some ad → ad.block ≠ w.heap.size from fun ad e => by have := (ho2.addr_ge ad e).1; have := hb1.size; omega)
  have HB := Lib.hid (two_below (bthen hb01 hb2) (Nat.le_refl _) (.slice A1 l.length c1) (.slice A2 p.length c2))
  have HE2 := Lib.hid ((hes1.below hb2).two HA1.out (.slice A1 l.length c1) (.slice A2 p.length c2))
  have HL2 := Lib.hid (hls2.two HA2.out (.slice A1 l.length c1) (.slice A2 p.length c2))
  have HT := Lib.hid (set_two hblk (.slice A1 l.length c1) (.slice A2 p.length c2))
  have hd0 := cell_at hblk 0 _ rfl
  have hd1 := cell_at hblk 1 _ rfl
  have hf0 := free_at hblk 0
  have hf1 := free_at hblk 1
  clear ho1 ho2 hb0 hb1 hb2 hb01 hes1 hls2 hblk hsz
  go_wp2
  refine bodyPost_ret (v := .agg #[.slice A1 l.length c1, .slice A2 p.length c2]) ?_ rfl ⟨_, rfl, ⟨A1, c1, A2, c2, rfl, hc1, hc2, HE2.out, HL2.out⟩, HB.out⟩
  have k0 := cell_at HT.out 0 _ rfl
  have k1 := cell_at HT.out 1 _ rfl
  simp [results, Tryz.results90, go_sem, k0, k1]

set_option maxHeartbeats 1000000 in
set_option maxRecDepth 100000 in
theorem partsOf_nil (w : World) : Calls Tryz.prog 90 #[.pointer none] w fun e w' => e = .returned (.agg #[.slice none 0 0, .slice none 0 0]) ∧ Below w.heap.size w w' := by
  go_enter Tryz.func90, Tryz.ntmps90
  go_wp2_with fail
  have hb0 : Below w.heap.size w (w.alloc (.cells #[.slice none 0 0, .slice none 0 0] 154)) := (Below.refl _ _).alloc (Nat.le_refl _) _
  have hblk : (w.alloc (.cells #[.slice none 0 0, .slice none 0 0] 154)).heap[w.heap.size]? = some (.cells #[.slice none 0 0, .slice none 0 0] 154 (0, 0)) := heap_alloc_new w _
  generalize w.alloc (.cells #[.slice none 0 0, .slice none 0 0] 154) = w0 at *
  refine (entries_nil _).mono ?_
  rintro e w1 ⟨rfl, rfl⟩
  go_wp2_with fail
  refine (kids_nil _).mono ?_
  rintro e w2 ⟨rfl, rfl⟩
  have HB := Lib.hid (two_below hb0 (Nat.le_refl _) (.slice none 0 0) (.slice none 0 0))
  have HT := Lib.hid (set_two hblk (.slice none 0 0) (.slice none 0 0))
  have hd0 := cell_at hblk 0 _ rfl
  have hd1 := cell_at hblk 1 _ rfl
  have hf0 := free_at hblk 0
  have hf1 := free_at hblk 1
  clear hb0 hblk
  go_wp2
  refine bodyPost_ret (v := .agg #[.slice none 0 0, .slice none 0 0]) ?_ rfl ⟨rfl, HB.out⟩
  have k0 := cell_at HT.out 0 _ rfl
  have k1 := cell_at HT.out 1 _ rfl
  simp [results, Tryz.results90, go_sem, k0, k1]

theorem ofLeaf_any (w : World) (A B : Option Addr) (n c m d : Nat) : Calls Tryz.prog 91 #[.agg #[.slice A n c, .slice B m d]] w fun e w' => e = .returned (.bool (decide (m = 0))) ∧ Below w.heap.size w w' := by
  have hb0 : Below w.heap.size w (w.alloc (.cells #[.slice A n c, .slice B m d] 154)) := (Below.refl _ _).alloc (Nat.le_refl _) _
  go_enter Tryz.func91, Tryz.ntmps91
  go_wp2
  go_ret
  exact ⟨congrArg (fun b => Ending.returned (Value.bool b)) (decide_eq_decide.2 (by omega)), hb0⟩

end Go.Proofs.YtelenboncejdaaaGreatDoor

/-
  The contracts of tree.halves, tree.build, parts.enough and parts.nodes; conditions stand at each.
-/
namespace Go.Proofs.YtelenboncejdaaaGreatDoor
open Go.RowKit Go.Sort
set_option linter.unusedVariables false

set_option maxHeartbeats 1000000 in
theorem enough_any (w : World) (A B : Option Addr) (n c m d : Nat) : Calls Tryz.prog 120 #[.agg #[.slice A n c, .slice B m d]] w fun e w' => e = .returned (.bool (decide (if m = 0 then 2 ≤ n else 3 ≤ m))) ∧ Below w.heap.size w w' := by
  have hb0 : Below w.heap.size w (w.alloc (.cells #[.slice A n c, .slice B m d] 154)) := (Below.refl _ _).alloc (Nat.le_refl _) _
  have hblk : (w.alloc (.cells #[.slice A n c, .slice B m d] 154)).heap[w.heap.size]? = some (.cells #[.slice A n c, .slice B m d] 154 (0, 0)) := heap_alloc_new w _
  obtain ⟨r, hr⟩ : ∃ r, r = decide (if m = 0 then 2 ≤ n else 3 ≤ m) := ⟨_, rfl⟩
  rw [← hr]
  have HR := Lib.hid hr
  clear hr
  go_enter Tryz.func120, Tryz.ntmps120
  go_wp2_with fail
  have hd0 := cell_at hblk 0 _ rfl
  have hd1 := cell_at hblk 1 _ rfl
  refine (ofLeaf_any _ A B n c m d).mono ?_
  rintro e w1 ⟨rfl, hb1⟩
  have q0 := (hb1.cell (by simp)).trans hd0
  have q1 := (hb1.cell (by simp)).trans hd1
  have HB := Lib.hid (bthen hb0 hb1)
  clear hb0 hb1 hblk hd0 hd1
  by_cases hm : m = 0
  · subst hm
    go_wp2
    go_ret
    refine ⟨congrArg (fun b => Ending.returned (Value.bool b)) ?_, HB.out⟩
    rw [HR.out]
    exact decide_eq_decide.2 (by simp; omega)
  · go_wp2
    go_ret
    refine ⟨congrArg (fun b => Ending.returned (Value.bool b)) ?_, HB.out⟩
    rw [HR.out]
    exact decide_eq_decide.2 (by rw [if_neg hm]; omega)

set_option maxHeartbeats 1000000 in
theorem halvesE_any (A : Option Addr) (n c : Nat) (l : List Ent) (w : World) (hr : Es w A l) (hn : l.length = n) (hc : n ≤ c) (hb : n ≤ 1000) (m : Nat) (hm : m = (n + 1) / 2) :
    Calls Tryz.prog 158 #[.slice A n c] w fun e w' => ∃ B d, e = .returned (.tuple #[.slice A m c, .slice B ((n - m : Nat) : Nat) d]) ∧ m ≤ c ∧ n - m ≤ d ∧ Es w' A (l.take m) ∧ Es w' B (l.drop m) ∧ Below w.heap.size w w' := by
  have hm1 : m ≤ n := by omega
  have hdiv : ((n : Int) + 1).tdiv 2 = (m : Int) := by
    rw [hm, show (n : Int) + 1 = ((n + 1 : Nat) : Int) from rfl, Int.tdiv_eq_ediv_of_nonneg (by omega)]
    omega
  have Hn := Lib.hid hn
  clear hm hn
  go_enter Tryz.func158, Tryz.ntmps158
  go_wp2_with fail
  go_quiet (fail)
  have hb1 := below_drewN (Below.refl w.heap.size w) nq
  have hr1 := hr.below hb1
  have hr2 := hr1.cut (k := m) (c := c) (by rw [Hn.out]; exact hc)
  generalize (if c = m then A else A.map (·.add (m * 2))) = B at hr2 ⊢
  go_wp2
  go_ret2
  exact ⟨_, _, rfl, by omega, by omega, hr1.take m, hr2, hb1⟩

set_option maxHeartbeats 1000000 in
theorem halvesP_any (A : Option Addr) (n c : Nat) (l : List (Option Nat)) (w : World) (hr : Ls pcP w A l) (hn : l.length = n) (hc : n ≤ c) (hb : n ≤ 1000) (m : Nat) (hm : m = (n + 1) / 2) :
    Calls Tryz.prog 159 #[.slice A n c] w fun e w' => ∃ B d, e = .returned (.tuple #[.slice A m c, .slice B ((n - m : Nat) : Nat) d]) ∧ m ≤ c ∧ n - m ≤ d ∧ Ls pcP w' A (l.take m) ∧ Ls pcP w' B (l.drop m) ∧ Below w.heap.size w w' := by
  have hm1 : m ≤ n := by omega
  have hdiv : ((n : Int) + 1).tdiv 2 = (m : Int) := by
    rw [hm, show (n : Int) + 1 = ((n + 1 : Nat) : Int) from rfl, Int.tdiv_eq_ediv_of_nonneg (by omega)]
    omega
  have Hn := Lib.hid hn
  clear hm hn
  go_enter Tryz.func159, Tryz.ntmps159
  go_wp2_with fail
  go_quiet (fail)
  have hb1 := below_drewN (Below.refl w.heap.size w) nq
  have hr1 := hr.below hb1
  have hr2 := hr1.cut encP (k := m) (c := c) (by rw [Hn.out]; exact hc)
  simp only [Nat.mul_one] at hr2
  generalize (if c = m then A else A.map (·.add (m))) = B at hr2 ⊢
  go_wp2
  go_ret2
  exact ⟨_, _, rfl, by omega, by omega, hr1.take_ m, hr2, hb1⟩

/-- A node as a tree. -/
theorem leaf_tr {w : World} {b : Nat} {N : NR} {l : List Ent} (h1 : NodeAt w b N) (h2 : LeafR N l) (h3 : Es w N.ea l) (h4 : okLeaf l = true) : Tr w 0 ⟨b, N, l, [b]⟩ := ⟨h1, h2, h3, h4, rfl⟩
theorem branch_tr {w : World} {b h : Nat} {N : NR} {ks : List ST} (h1 : NodeAt w b N) (h2 : BranchR N (nbs ks)) (h3 : Ls pcP w N.ka (ptrS ks)) (h4 : 2 ≤ ks.length) (h5 : ks.length ≤ 6) (h6 : Sorted (flat ks)) (h7 : ∀ k ∈ ks, Tr w h k ∧ k.good = true) : Tr w (h + 1) ⟨b, N, flat ks, b :: idsOf ks⟩ := ⟨ks, h1, h2, h3, h4, h5, h6, h7, rfl, rfl⟩
theorem ls_one (w : World) (b : Nat) (t : TypeId) : Ls pcP (w.alloc (.cells #[pn b] t)) (some ⟨w.heap.size, 0, none⟩) [some b] := fun _ => ⟨_, rfl, by simp, new_row w #[pn b] t⟩
theorem ls_pair (w : World) (b c : Nat) (t : TypeId) : Ls pcP (w.alloc (.cells #[pn b, pn c] t)) (some ⟨w.heap.size, 0, none⟩) [some b, some c] := fun _ => ⟨_, rfl, by simp, new_row w #[pn b, pn c] t⟩
def most (h : Nat) : Nat := if h = 0 then 4 else 6
def least (h : Nat) : Nat := if h = 0 then 2 else 3
/-- Nodes that were made of parts: one, or two. -/
def Built (w w' : World) (h : Nat) (v : Value) (l : List Ent) (n : Nat) (old : List Nat) (m : Nat) : Prop :=
  ∃ ks A c, v = .slice A ks.length c ∧ ks.length ≤ c ∧ Ls pcP w' A (ptrS ks) ∧ ks.length = (if n ≤ most h then 1 else 2) ∧ (∀ k ∈ ks, Tr w' h k ∧ w.heap.size ≤ k.b ∧ (least h ≤ n → k.good = true)) ∧ flat ks = l ∧ FewNew old m (idsOf ks)
theorem Built.below {w w1 w2 : World} {h : Nat} {v : Value} {l : List Ent} {n m : Nat} {old : List Nat} (hp : Built w w1 h v l n old m) (hb : Below w1.heap.size w1 w2) : Built w w2 h v l n old m := by
  obtain ⟨ks, A, c, h1, h2, h3, h4, h5, h6⟩ := hp
  exact ⟨ks, A, c, h1, h2, h3.below hb, h4, fun k hk => ⟨(h5 k hk).1.below hb, (h5 k hk).2⟩, h6⟩
theorem Built.older {w0 w w1 : World} {h : Nat} {v : Value} {l : List Ent} {n m : Nat} {old : List Nat} (hp : Built w w1 h v l n old m) (hb : w0.heap.size ≤ w.heap.size) : Built w0 w1 h v l n old m := by
  obtain ⟨ks, A, c, h1, h2, h3, h4, h5, h6⟩ := hp
  exact ⟨ks, A, c, h1, h2, h3, h4, fun k hk => ⟨(h5 k hk).1, Nat.le_trans hb (h5 k hk).2.1, (h5 k hk).2.2⟩, h6⟩
theorem okE_small {e : Ent} (h : okE e = true) : e.k.size ≤ 140737488351232 ∧ e.v.size ≤ 140737488351232 := by
  simp only [okE, Bool.and_eq_true, decide_eq_true_eq] at h
  obtain ⟨h1, h2⟩ := h
  constructor
  · by_cases h24 : 24 < e.k.size
    · unfold keyNo at h1
      rw [if_neg (by omega), if_pos h24] at h1
      cases h1
    · omega
  · by_cases h24 : 400 < e.v.size
    · unfold valNo at h2
      rw [if_pos h24] at h2
      cases h2
    · omega
theorem okLeaf_of {l : List Ent} (h1 : 1 ≤ l.length) (h4 : l.length ≤ 4) (h : ∀ e ∈ l, okE e = true) (hs : Sorted l) : okLeaf l = true := by rw [okLeaf_good h1 h4 h]; exact decide_eq_true hs

set_option maxHeartbeats 1000000 in
set_option maxRecDepth 100000 in
theorem buildE_any (A : Option Addr) (n c : Nat) (l : List Ent) (w : World) (hr : Es w A l) (hn : l.length = n) (hc : n ≤ c) (h1 : 1 ≤ n) (h8 : n ≤ 8) (hs : Sorted l) (ho : ∀ e ∈ l, okE e = true) (old : List Nat) :
    Calls Tryz.prog 129 #[.slice A n c, .int .i64 4, .func (.func 37) #[] #[]] w fun e w' => ∃ v, e = .returned v ∧ Built w w' 0 v l n old 2 ∧ Below w.heap.size w w' := by
  have Hn := Lib.hid hn
  have HS := Lib.hid hs
  have HO := Lib.hid ho
  have HR := Lib.hid hr
  clear hn hs ho hr
  by_cases h4 : n ≤ 4
  · go_enter Tryz.func129, Tryz.ntmps129
    go_wp2_with fail
    refine (leaf_any A n c l w HR.out Hn.out (by omega) (fun e he => okE_small (HO.out e he))).mono ?_
    have hok := okLeaf_of (by rw [Hn.out]; exact h1) (by rw [Hn.out]; exact h4) HO.out HS.out
    rintro e w1 ⟨hb1, ⟨_, b, N, rfl, hbb, hN, hL, hE, _⟩ | ⟨h, _⟩⟩
    · have hb2 : Below w1.heap.size w1 (w1.alloc (.cells #[pn b] 25)) := (Below.refl _ _).alloc (Nat.le_refl _) _
      have ht := (leaf_tr hN hL hE hok).below hb2
      have HB : Hid (Built w (w1.alloc (.cells #[pn b] 25)) 0 (.slice (some ⟨w1.heap.size, 0, none⟩) 1 1) l n old 2) := Lib.hid ⟨[⟨b, N, l, [b]⟩], _, 1, rfl, Nat.le_refl _, ls_one w1 b _, by rw [if_pos (show n ≤ most 0 from h4)]; rfl, fun k hk => by
        rw [List.mem_singleton.1 hk]
        refine ⟨ht, hbb, fun h2 => ?_⟩
        rw [ht.good_iff]
        refine decide_eq_true ?_
        show 2 ≤ N.en + N.kn
        rw [hL.en, hL.kn, Hn.out]
        exact h2, by simp [flat], ⟨[b], by simp, fun x hx => .inr (by simpa [idsOf] using hx)⟩⟩
      have HW := Lib.hid (bthen hb1 hb2)
      clear hb1 hb2 ht hN hL hE
      go_wp2
      go_ret
      exact ⟨_, rfl, HB.out, HW.out⟩
    · rw [hok] at h
      cases h
  · obtain ⟨m, hm⟩ : ∃ m, m = (n + 1) / 2 := ⟨_, rfl⟩
    have hm1 : 3 ≤ m ∧ m ≤ 4 ∧ 2 ≤ n - m ∧ n - m ≤ 4 ∧ m ≤ n := by omega
    have hl1 : (l.take m).length = m := by rw [List.length_take, Hn.out]; omega
    have hl2 : (l.drop m).length = n - m := by rw [List.length_drop, Hn.out]
    have ho1 : ∀ e ∈ l.take m, okE e = true := fun e he => HO.out e (List.mem_of_mem_take he)
    have ho2 : ∀ e ∈ l.drop m, okE e = true := fun e he => HO.out e (List.mem_of_mem_drop he)
    have hs1 : Sorted (l.take m) := HS.out.sublist (List.take_sublist _ _)
    have hs2 : Sorted (l.drop m) := HS.out.sublist (List.drop_sublist _ _)
    have hok1 := okLeaf_of (by rw [hl1]; omega) (by rw [hl1]; omega) ho1 hs1
    have hok2 := okLeaf_of (by rw [hl2]; omega) (by rw [hl2]; omega) ho2 hs2
    have HL1 := Lib.hid hl1
    have HL2 := Lib.hid hl2
    have HO1 := Lib.hid ho1
    have HO2 := Lib.hid ho2
    have HK1 := Lib.hid hok1
    have HK2 := Lib.hid hok2
    clear hl1 hl2 ho1 ho2 hs1 hs2 hok1 hok2
    go_enter Tryz.func129, Tryz.ntmps129
    go_wp2_with fail
    refine (halvesE_any A n c l w HR.out Hn.out hc (by omega) m hm).mono ?_
    rintro e w1 ⟨B, d, rfl, hmc, hmd, he1, he2, hb1⟩
    have HE1 := Lib.hid he1
    have HE2 := Lib.hid he2
    have HB1 := Lib.hid hb1
    have HM := Lib.hid hm
    clear he1 he2 hb1 hm
    go_wp2_with fail
    refine (leaf_any A m c (l.take m) w1 HE1.out HL1.out (by omega) (fun e he => okE_small (HO1.out e he))).mono ?_
    rintro e w2 ⟨hb2, ⟨_, b, N, rfl, hbb, hN, hL, hE, _⟩ | ⟨h, _⟩⟩
    · have HB2 := Lib.hid hb2
      have HN1 := Lib.hid (leaf_tr hN hL hE HK1.out)
      have HZ1 := Lib.hid (show N.en + N.kn = m by rw [hL.en, hL.kn, HL1.out]; rfl)
      have HBB := Lib.hid (show w.heap.size ≤ b from Nat.le_trans HB1.out.size hbb)
      clear hb2 hN hL hE hbb
      go_wp2_with fail
      refine (leaf_any B (n - m) d (l.drop m) w2 (HE2.out.below HB2.out) HL2.out (by omega) (fun e he => okE_small (HO2.out e he))).mono ?_
      rintro e w3 ⟨hb3, ⟨_, b', N', rfl, hbb', hN', hL', hE', _⟩ | ⟨h, _⟩⟩
      · have hb4 : Below w3.heap.size w3 (w3.alloc (.cells #[pn b, pn b'] 25)) := (Below.refl _ _).alloc (Nat.le_refl _) _
        have ht1 := (HN1.out.below hb3).below hb4
        have ht2 := (leaf_tr hN' hL' hE' HK2.out).below hb4
        have hz2 : N'.en + N'.kn = n - m := by rw [hL'.en, hL'.kn, HL2.out]; rfl
        have HB : Hid (Built w (w3.alloc (.cells #[pn b, pn b'] 25)) 0 (.slice (some ⟨w3.heap.size, 0, none⟩) 2 2) l n old 2) := Lib.hid ⟨[⟨b, N, l.take m, [b]⟩, ⟨b', N', l.drop m, [b']⟩], _, 2, rfl, Nat.le_refl _, ls_pair w3 b b' _, by rw [if_neg (show ¬ n ≤ most 0 from h4)]; rfl, fun k hk => by
          rcases List.mem_cons.1 hk with rfl | hk
          · refine ⟨ht1, HBB.out, fun h2 => ?_⟩
            rw [ht1.good_iff]
            refine decide_eq_true ?_
            show 2 ≤ N.en + N.kn
            rw [HZ1.out]
            omega
          · rw [List.mem_singleton.1 hk]
            refine ⟨ht2, Nat.le_trans HB1.out.size (Nat.le_trans HB2.out.size hbb'), fun h2 => ?_⟩
            rw [ht2.good_iff]
            refine decide_eq_true ?_
            show 2 ≤ N'.en + N'.kn
            rw [hz2]
            omega, by simp [flat], ⟨[b, b'], by simp, fun x hx => .inr (by simpa [idsOf] using hx)⟩⟩
        have HW := Lib.hid (bthen HB1.out (bthen HB2.out (bthen hb3 hb4)))
        clear hb3 hb4 ht1 ht2 hz2 hN' hL' hE'
        go_wp2
        go_ret
        exact ⟨_, rfl, HB.out, HW.out⟩
      · rw [HK2.out] at h
        cases h
    · rw [HK1.out] at h
      cases h

theorem idsOf_take {ks : List ST} {m : Nat} {x : Nat} (h : x ∈ idsOf (ks.take m)) : x ∈ idsOf ks := by
  obtain ⟨k, hk, hx⟩ := List.mem_flatMap.1 h
  exact List.mem_flatMap.2 ⟨k, List.mem_of_mem_take hk, hx⟩
theorem idsOf_drop {ks : List ST} {m : Nat} {x : Nat} (h : x ∈ idsOf (ks.drop m)) : x ∈ idsOf ks := by
  obtain ⟨k, hk, hx⟩ := List.mem_flatMap.1 h
  exact List.mem_flatMap.2 ⟨k, List.mem_of_mem_drop hk, hx⟩
theorem flat_sorted_take {ks : List ST} (m : Nat) (h : Sorted (flat ks)) : Sorted (flat (ks.take m)) := by
  have e : flat ks = flat (ks.take m) ++ flat (ks.drop m) := by rw [← flat_append, List.take_append_drop]
  rw [e] at h
  exact (List.pairwise_append.1 h).1
theorem flat_sorted_drop {ks : List ST} (m : Nat) (h : Sorted (flat ks)) : Sorted (flat (ks.drop m)) := by
  have e : flat ks = flat (ks.take m) ++ flat (ks.drop m) := by rw [← flat_append, List.take_append_drop]
  rw [e] at h
  exact (List.pairwise_append.1 h).2.1
/-- A branch of sufficiently filled kids, as a tree. -/
theorem made_tr {w w1 : World} {b h : Nat} {N : NR} {ks : List ST} (h1 : NodeAt w1 b N) (h2 : BranchR N (nbs ks)) (h3 : Ls pcP w1 N.ka (ptrS ks)) (h4 : 2 ≤ ks.length) (h5 : ks.length ≤ 6) (h6 : Sorted (flat ks)) (h7 : ∀ k ∈ ks, Tr w h k ∧ k.good = true) (hb : Below w.heap.size w w1) :
    Tr w1 (h + 1) ⟨b, N, flat ks, b :: idsOf ks⟩ ∧ (3 ≤ ks.length → (⟨b, N, flat ks, b :: idsOf ks⟩ : ST).good = true) := by
  have t := branch_tr h1 h2 h3 h4 h5 h6 fun k hk => ⟨(h7 k hk).1.below hb, (h7 k hk).2⟩
  refine ⟨t, fun hg => ?_⟩
  rw [t.good_iff]
  refine decide_eq_true ?_
  show (if h + 1 = 0 then 2 else 3) ≤ N.en + N.kn
  rw [if_neg (by omega), h2.en, h2.kn, nbs_len]
  omega

set_option maxHeartbeats 1000000 in
set_option maxRecDepth 100000 in
theorem buildP_any (A : Option Addr) (n c h : Nat) (ks : List ST) (w : World) (hr : Ls pcP w A (ptrS ks)) (hn : ks.length = n) (hc : n ≤ c) (h1 : 2 ≤ n) (h8 : n ≤ 12) (hh : h ≤ 100000) (hs : Sorted (flat ks)) (ho : ∀ k ∈ ks, Tr w h k ∧ k.good = true) (old : List Nat) (q : Nat) (hf : FewNew old q (idsOf ks)) :
    Calls Tryz.prog 130 #[.slice A n c, .int .i64 6, .func (.func 96) #[] #[]] w fun e w' => ∃ v, e = .returned v ∧ Built w w' (h + 1) v (flat ks) n old (q + 2) ∧ Below w.heap.size w w' := by
  have Hn := Lib.hid hn
  have HS := Lib.hid hs
  have HO := Lib.hid ho
  have HR := Lib.hid hr
  have HF := Lib.hid hf
  clear hn hs ho hr hf
  by_cases h4 : n ≤ 6
  · go_enter Tryz.func130, Tryz.ntmps130
    go_wp2_with fail
    refine (branch_any A n c (nbs ks) w HR.out (by rw [nbs_len]; exact Hn.out) hc (by omega) (all_of HO.out) (tame_of HO.out hh)).mono ?_
    have hok := krs_ok HO.out HS.out (by rw [Hn.out]; exact h1) (by rw [Hn.out]; exact h4)
    rintro e w1 ⟨hb1, ⟨_, b, N, rfl, hbb, hN, hL, hE, _⟩ | ⟨h, _⟩⟩
    · have hb2 : Below w1.heap.size w1 (w1.alloc (.cells #[pn b] 25)) := (Below.refl _ _).alloc (Nat.le_refl _) _
      obtain ⟨ht1, hg⟩ := made_tr hN hL hE (by rw [Hn.out]; exact h1) (by rw [Hn.out]; exact h4) HS.out HO.out hb1
      have ht := ht1.below hb2
      have HB : Hid (Built w (w1.alloc (.cells #[pn b] 25)) (h + 1) (.slice (some ⟨w1.heap.size, 0, none⟩) 1 1) (flat ks) n old (q + 2)) := Lib.hid ⟨[⟨b, N, flat ks, b :: idsOf ks⟩], _, 1, rfl, Nat.le_refl _, ls_one w1 b _, by rw [if_pos (show n ≤ most (h + 1) from h4)]; rfl, fun k hk => by
        rw [List.mem_singleton.1 hk]
        exact ⟨ht, hbb, fun h2 => hg (by rw [Hn.out]; exact h2)⟩, by simp [flat], ((HF.out.new b).more (by omega)).sub fun x hx => by simpa [idsOf] using hx⟩
      have HW := Lib.hid (bthen hb1 hb2)
      clear hb1 hb2 ht ht1 hg hN hL hE
      go_wp2
      go_ret
      exact ⟨_, rfl, HB.out, HW.out⟩
    · rw [hok] at h
      cases h
  · obtain ⟨m, hm⟩ : ∃ m, m = (n + 1) / 2 := ⟨_, rfl⟩
    have hm1 : 3 ≤ m ∧ m ≤ 6 ∧ 3 ≤ n - m ∧ n - m ≤ 6 ∧ m ≤ n := by omega
    have hl1 : (ks.take m).length = m := by rw [List.length_take, Hn.out]; omega
    have hl2 : (ks.drop m).length = n - m := by rw [List.length_drop, Hn.out]
    have ho1 : ∀ k ∈ ks.take m, Tr w h k ∧ k.good = true := fun e he => HO.out e (List.mem_of_mem_take he)
    have ho2 : ∀ k ∈ ks.drop m, Tr w h k ∧ k.good = true := fun e he => HO.out e (List.mem_of_mem_drop he)
    have hs1 := flat_sorted_take m HS.out
    have hs2 := flat_sorted_drop m HS.out
    have hok1 := krs_ok ho1 hs1 (by rw [hl1]; omega) (by rw [hl1]; omega)
    have hok2 := krs_ok ho2 hs2 (by rw [hl2]; omega) (by rw [hl2]; omega)
    have HL1 := Lib.hid hl1
    have HL2 := Lib.hid hl2
    have HO1 := Lib.hid ho1
    have HO2 := Lib.hid ho2
    have HS1 := Lib.hid hs1
    have HS2 := Lib.hid hs2
    have HK1 := Lib.hid hok1
    have HK2 := Lib.hid hok2
    clear hl1 hl2 ho1 ho2 hs1 hs2 hok1 hok2
    go_enter Tryz.func130, Tryz.ntmps130
    go_wp2_with fail
    refine (halvesP_any A n c (ptrS ks) w HR.out (by rw [ptrS_len]; exact Hn.out) hc (by omega) m hm).mono ?_
    rintro e w1 ⟨B, d, rfl, hmc, hmd, he1, he2, hb1⟩
    rw [← ptrS_take] at he1
    rw [← ptrS_drop] at he2
    have HE1 := Lib.hid he1
    have HE2 := Lib.hid he2
    have HB1 := Lib.hid hb1
    have HM := Lib.hid hm
    clear he1 he2 hb1 hm
    go_wp2_with fail
    have ho11 : ∀ k ∈ ks.take m, Tr w1 h k ∧ k.good = true := fun k hk => ⟨(HO1.out k hk).1.below HB1.out, (HO1.out k hk).2⟩
    refine (branch_any A m c (nbs (ks.take m)) w1 HE1.out (by rw [nbs_len]; exact HL1.out) hmc (by omega) (all_of ho11) (tame_of ho11 hh)).mono ?_
    rintro e w2 ⟨hb2, ⟨_, b, N, rfl, hbb, hN, hL, hE, _⟩ | ⟨h, _⟩⟩
    · have HB2 := Lib.hid hb2
      obtain ⟨hta, hga⟩ := made_tr hN hL hE (by rw [HL1.out]; omega) (by rw [HL1.out]; omega) HS1.out ho11 hb2
      have HN1 := Lib.hid hta
      have HG1 := Lib.hid (hga (by rw [HL1.out]; omega))
      have HBB := Lib.hid (show w.heap.size ≤ b from Nat.le_trans HB1.out.size hbb)
      clear hb2 hN hL hE hbb hta hga ho11
      go_wp2_with fail
      have ho12 : ∀ k ∈ ks.drop m, Tr w2 h k ∧ k.good = true := fun k hk => ⟨((HO2.out k hk).1.below HB1.out).below HB2.out, (HO2.out k hk).2⟩
      refine (branch_any B (n - m) d (nbs (ks.drop m)) w2 (HE2.out.below HB2.out) (by rw [nbs_len]; exact HL2.out) hmd (by omega) (all_of ho12) (tame_of ho12 hh)).mono ?_
      rintro e w3 ⟨hb3, ⟨_, b', N', rfl, hbb', hN', hL', hE', _⟩ | ⟨h, _⟩⟩
      · have hb4 : Below w3.heap.size w3 (w3.alloc (.cells #[pn b, pn b'] 25)) := (Below.refl _ _).alloc (Nat.le_refl _) _
        obtain ⟨htb, hgb⟩ := made_tr hN' hL' hE' (by rw [HL2.out]; omega) (by rw [HL2.out]; omega) HS2.out ho12 hb3
        have ht1 := (HN1.out.below hb3).below hb4
        have ht2 := htb.below hb4
        have HB : Hid (Built w (w3.alloc (.cells #[pn b, pn b'] 25)) (h + 1) (.slice (some ⟨w3.heap.size, 0, none⟩) 2 2) (flat ks) n old (q + 2)) := Lib.hid ⟨[⟨b, N, flat (ks.take m), b :: idsOf (ks.take m)⟩, ⟨b', N', flat (ks.drop m), b' :: idsOf (ks.drop m)⟩], _, 2, rfl, Nat.le_refl _, ls_pair w3 b b' _, by rw [if_neg (show ¬ n ≤ most (h + 1) from h4)]; rfl, fun k hk => by
          rcases List.mem_cons.1 hk with rfl | hk
          · exact ⟨ht1, HBB.out, fun _ => HG1.out⟩
          · rw [List.mem_singleton.1 hk]
            exact ⟨ht2, Nat.le_trans HB1.out.size (Nat.le_trans HB2.out.size hbb'), fun _ => hgb (by rw [HL2.out]; omega)⟩, by
          show flat (ks.take m) ++ (flat (ks.drop m) ++ []) = flat ks
          rw [List.append_nil, ← flat_append, List.take_append_drop], ((HF.out.new b').new b).sub fun x hx => by
          simp only [idsOf, List.flatMap_cons, List.flatMap_nil, List.append_nil, List.mem_append, List.mem_cons] at hx
          rcases hx with (rfl | hx) | (rfl | hx)
          · exact List.mem_cons_self ..
          · exact List.mem_cons_of_mem _ (List.mem_cons_of_mem _ (idsOf_take hx))
          · exact List.mem_cons_of_mem _ (List.mem_cons_self ..)
          · exact List.mem_cons_of_mem _ (List.mem_cons_of_mem _ (idsOf_drop hx))⟩
        have HW := Lib.hid (bthen HB1.out (bthen HB2.out (bthen hb3 hb4)))
        clear hb3 hb4 ht1 ht2 htb hgb hN' hL' hE' ho12
        go_wp2
        go_ret
        exact ⟨_, rfl, HB.out, HW.out⟩
      · rw [HK2.out] at h
        cases h
    · rw [HK1.out] at h
      cases h

/-- How many elements the parts of a level may have. -/
def fits (h n : Nat) : Prop := if h = 0 then 1 ≤ n ∧ n ≤ 8 else 2 ≤ n ∧ n ≤ 12
set_option maxHeartbeats 1000000 in
set_option maxRecDepth 100000 in
theorem nodes_any {w : World} {h : Nat} {v : Value} {l : List Ent} {n q : Nat} {old : List Nat} (hp : Parts w h v l n old q) (hf : fits h n) (hh : h ≤ 100000) (hs : Sorted l) (ho : ∀ e ∈ l, okE e = true) :
    Calls Tryz.prog 95 #[v] w fun e w' => ∃ u, e = .returned u ∧ Built w w' h u l n old (q + 2) ∧ Below w.heap.size w w' := by
  have HP := Lib.hid hp
  have HS := Lib.hid hs
  have HO := Lib.hid ho
  clear hp hs ho
  cases h with
  | zero =>
    obtain ⟨⟨A, c, B, d, rfl, hc, hd, he, hl⟩, hn⟩ := HP.out
    obtain ⟨hf1, hf2⟩ : 1 ≤ n ∧ n ≤ 8 := hf
    have HE := Lib.hid he
    have HN := Lib.hid hn
    rw [hn] at hc ⊢
    clear HP he hl hn
    simp only [List.length_nil] at hd ⊢
    go_enter Tryz.func95, Tryz.ntmps95
    go_wp2_with fail
    have hb0 : Below w.heap.size w (w.alloc (.cells #[.slice A n c, .slice B (0 : Nat) d] 154)) := (Below.refl _ _).alloc (Nat.le_refl _) _
    have hblk : (w.alloc (.cells #[.slice A n c, .slice B (0 : Nat) d] 154)).heap[w.heap.size]? = some (.cells #[.slice A n c, .slice B (0 : Nat) d] 154 (0, 0)) := heap_alloc_new w _
    refine (ofLeaf_any _ A B n c 0 d).mono ?_
    rintro e w1 ⟨rfl, hb1⟩
    have q0 := (hb1.cell (by simp)).trans (cell_at hblk 0 _ rfl)
    have hb2 := bthen hb0 hb1
    have HB := Lib.hid hb2
    have HE1 := Lib.hid (HE.out.below hb2)
    clear hb0 hb1 hblk hb2
    go_wp2_with fail
    refine (buildE_any A n c l w1 HE1.out HN.out hc hf1 hf2 HS.out HO.out old).mono ?_
    rintro e w2 ⟨u, rfl, hbu, hb3⟩
    have HU := Lib.hid hbu
    have HW := Lib.hid (bthen HB.out hb3)
    clear hbu hb3
    go_wp2
    go_ret
    obtain ⟨ks, A', c', k1, k2, k3, k4, k5, k6, k7⟩ := HU.out.older HB.out.size
    exact ⟨_, rfl, ⟨ks, A', c', k1, k2, k3, k4, k5, k6, k7.more (by omega)⟩, HW.out⟩
  | succ h =>
    obtain ⟨ks, ⟨A, c, B, d, rfl, hc, hd, he, hl⟩, hn, hk, rfl, hq⟩ := HP.out
    obtain ⟨hf1, hf2⟩ : 2 ≤ n ∧ n ≤ 12 := by
      unfold fits at hf
      rw [if_neg (by omega)] at hf
      exact hf
    have HE := Lib.hid hl
    have HN := Lib.hid hn
    have HK := Lib.hid hk
    have HQ := Lib.hid hq
    rw [ptrS_len, hn] at hd ⊢
    clear HP he hl hn hf hk hq
    simp only [List.length_nil] at hc ⊢
    have hn0 : ¬ n = 0 := by omega
    go_enter Tryz.func95, Tryz.ntmps95
    go_wp2_with fail
    have hb0 : Below w.heap.size w (w.alloc (.cells #[.slice A (0 : Nat) c, .slice B n d] 154)) := (Below.refl _ _).alloc (Nat.le_refl _) _
    have hblk : (w.alloc (.cells #[.slice A (0 : Nat) c, .slice B n d] 154)).heap[w.heap.size]? = some (.cells #[.slice A (0 : Nat) c, .slice B n d] 154 (0, 0)) := heap_alloc_new w _
    refine (ofLeaf_any _ A B 0 c n d).mono ?_
    rintro e w1 ⟨rfl, hb1⟩
    have q1 := (hb1.cell (by simp)).trans (cell_at hblk 1 _ rfl)
    have hb2 := bthen hb0 hb1
    have HB := Lib.hid hb2
    have HE1 := Lib.hid (HE.out.below hb2)
    have HK1 := Lib.hid (show ∀ k ∈ ks, Tr w1 h k ∧ k.good = true from fun k hk => ⟨(HK.out k hk).1.below hb2, (HK.out k hk).2⟩)
    clear hb0 hb1 hblk hb2
    go_wp2_with fail
    refine (buildP_any B n d h ks w1 HE1.out HN.out hd hf1 hf2 (by omega) HS.out HK1.out old q HQ.out).mono ?_
    rintro e w2 ⟨u, rfl, hbu, hb3⟩
    have HU := Lib.hid hbu
    have HW := Lib.hid (bthen HB.out hb3)
    clear hbu hb3
    go_wp2
    go_ret
    exact ⟨_, rfl, HU.out.older HB.out.size, HW.out⟩

end Go.Proofs.YtelenboncejdaaaGreatDoor

/-
  The contracts of parts.replace, parts.join and tree.kidFor; conditions stand at each.
-/
namespace Go.Proofs.YtelenboncejdaaaGreatDoor
open Go.RowKit Go.Sort
set_option linter.unusedVariables false

theorem Pt.form {w : World} {v : Value} {l : List Ent} {p : List (Option Nat)} (h : Pt w v l p) : ∃ A c B d, v = .agg #[.slice A l.length c, .slice B p.length d] := by
  obtain ⟨A, c, B, d, h, _⟩ := h
  exact ⟨_, _, _, _, h⟩
theorem Parts.form {w : World} {h : Nat} {v : Value} {l : List Ent} {n q : Nat} {old : List Nat} (hp : Parts w h v l n old q) : ∃ A a c B b d, v = .agg #[.slice A (a : Nat) c, .slice B (b : Nat) d] := by
  cases h with
  | zero =>
    obtain ⟨A, c, B, d, h⟩ := hp.1.form
    exact ⟨_, _, _, _, _, _, h⟩
  | succ h =>
    obtain ⟨ks, h, _⟩ := hp
    obtain ⟨A, c, B, d, h⟩ := h.form
    exact ⟨_, _, _, _, _, _, h⟩

theorem three_new (w : World) (c0 c1 c2 : Array Value) (t0 t1 t2 : TypeId) {W : World} (hW : W = (((w.alloc (.cells c0 t0)).alloc (.cells c1 t1)).alloc (.cells c2 t2)).drew) :
    Below w.heap.size w W ∧ W.heap[w.heap.size]? = some (.cells c0 t0 (0, 0)) ∧ W.heap[w.heap.size + 1]? = some (.cells c1 t1 (0, 0)) ∧ W.heap[w.heap.size + 1 + 1]? = some (.cells c2 t2 (0, 0)) ∧ W.heap.size = w.heap.size + 3 := by
  have k0 := heap_alloc_new w (.cells c0 t0)
  have k1 := heap_alloc_new (w.alloc (.cells c0 t0)) (.cells c1 t1)
  have k2 := heap_alloc_new ((w.alloc (.cells c0 t0)).alloc (.cells c1 t1)) (.cells c2 t2)
  have b1 : Below (w.alloc (.cells c0 t0)).heap.size (w.alloc (.cells c0 t0)) ((w.alloc (.cells c0 t0)).alloc (.cells c1 t1)) := (Below.refl _ _).alloc (Nat.le_refl _) _
  have b2 : Below ((w.alloc (.cells c0 t0)).alloc (.cells c1 t1)).heap.size ((w.alloc (.cells c0 t0)).alloc (.cells c1 t1)) (((w.alloc (.cells c0 t0)).alloc (.cells c1 t1)).alloc (.cells c2 t2)) := (Below.refl _ _).alloc (Nat.le_refl _) _
  have b0 : Below w.heap.size w (w.alloc (.cells c0 t0)) := (Below.refl _ _).alloc (Nat.le_refl _) _
  have b3 : Below (((w.alloc (.cells c0 t0)).alloc (.cells c1 t1)).alloc (.cells c2 t2)).heap.size (((w.alloc (.cells c0 t0)).alloc (.cells c1 t1)).alloc (.cells c2 t2)) W := by rw [hW]; exact (Below.refl _ _).drew
  have s0 : (w.alloc (.cells c0 t0)).heap.size = w.heap.size + 1 := by simp
  have s1 : ((w.alloc (.cells c0 t0)).alloc (.cells c1 t1)).heap.size = w.heap.size + 1 + 1 := by simp
  have s2 : (((w.alloc (.cells c0 t0)).alloc (.cells c1 t1)).alloc (.cells c2 t2)).heap.size = w.heap.size + 3 := by simp
  refine ⟨bthen b0 (bthen b1 (bthen b2 b3)), ?_, ?_, ?_, ?_⟩
  · exact (b3.block _ (by omega)).trans ((b2.block _ (by omega)).trans ((b1.block _ (by omega)).trans k0))
  · rw [s0] at k1
    exact (b3.block _ (by omega)).trans ((b2.block _ (by omega)).trans k1)
  · rw [s1] at k2
    exact (b3.block _ (by omega)).trans k2
  · rw [hW, ← s2]
    rfl

/-- At most a box of slices has turned. -/
structure Off (g : Nat) (w w' : World) : Prop where
  size : w.heap.size ≤ w'.heap.size
  block : ∀ i, i < w.heap.size → i ≠ g → w'.heap[i]? = w.heap[i]?
  slices : ∀ a u, a.block = g → w.cell? a = some u → ∃ A n c, u = .slice A n c
theorem Off.two {w : World} {g : Nat} {t : TypeId} {A B : Option Addr} {a b c d : Nat} (h : w.heap[g]? = some (.cells #[.slice A a b, .slice B c d] t (0, 0))) (u v : Value) : Off g w (World.two w g u v) := by
  refine ⟨by rw [two_size]; exact Nat.le_refl _, fun i _ hi => two_other w g u v i hi, fun ad x he hx => ?_⟩
  unfold World.cell? at hx
  rw [he, h] at hx
  simp only at hx
  split at hx
  · cases hx
  · have := Array.getElem?_eq_some_iff.1 hx
    obtain ⟨hlt, hx⟩ := this
    have hlt : ad.off < 2 := hlt
    match h0 : ad.off, hlt with
    | 0, _ =>
      simp only [h0] at hx
      exact ⟨_, _, _, hx.symm⟩
    | 1, _ =>
      simp only [h0] at hx
      exact ⟨_, _, _, hx.symm⟩
theorem Off.cell {g : Nat} {w w' : World} (h : Off g w w') {a : Addr} {u : Value} (hx : w.cell? a = some u) (hu : ∀ A n c, u ≠ .slice A n c) : a.block ≠ g ∧ w'.cell? a = some u := by
  have hne : a.block ≠ g := fun e => by
    obtain ⟨A, n, c, he⟩ := h.slices a u e hx
    exact hu A n c he
  have hlt : a.block < w.heap.size := by
    unfold World.cell? at hx
    rcases Nat.lt_or_ge a.block w.heap.size with h1 | h1
    · exact h1
    · rw [Array.getElem?_eq_none h1] at hx
      cases hx
  refine ⟨hne, ?_⟩
  rw [← hx]
  unfold World.cell?
  rw [h.block _ hlt hne]
section
variable {g : Nat} {w w' : World}
theorem NodeAt.off {b : Nat} {N : NR} (h : NodeAt w b N) (ho : Off g w w') : NodeAt w' b N := h.keep (ho.block b h.lt (ho.cell (a := ⟨b, 2, none⟩) h.c2 (by intro A n c e; cases e)).1)
theorem ecells_no_slice : ∀ (l : List Ent) (A : Option Addr) (n c : Nat), Value.slice A n c ∉ ecells l
  | [], _, _, _ => by simp [ecells]
  | e :: l, A, n, c => by simp [ecells, ecells_no_slice l A n c]
theorem Es.off {A : Option Addr} {l : List Ent} (h : Es w A l) (ho : Off g w w') : Es w' A l := fun h0 => by
  obtain ⟨ad, e, hlt, hc⟩ := h h0
  refine ⟨ad, e, Nat.lt_of_lt_of_le hlt ho.size, fun j x hx => (ho.cell (hc j x hx) fun A n c hs => ?_).2⟩
  subst hs
  exact ecells_no_slice l A n c (List.mem_of_getElem? hx)
theorem Ls.off {A : Option Addr} {l : List (Option Nat)} (h : Ls pcP w A l) (ho : Off g w w') : Ls pcP w' A l := fun h0 => by
  obtain ⟨ad, e, hlt, hc⟩ := h h0
  refine ⟨ad, e, Nat.lt_of_lt_of_le hlt ho.size, fun j x hx => (ho.cell (hc j x hx) fun A n c hs => ?_).2⟩
  obtain ⟨e, he, hm⟩ := List.mem_flatMap.1 (List.mem_of_getElem? hx)
  subst hs
  simp [pcP, ptr] at hm
theorem Tr.off : ∀ {h : Nat} {s : ST}, Tr w h s → Off g w w' → Tr w' h s
  | 0, s, t, hb => ⟨t.1.off hb, t.2.1, t.2.2.1.off hb, t.2.2.2⟩
  | h + 1, s, ⟨ks, t1, t2, t3, t4, t5, t6, t7, t8⟩, hb => ⟨ks, t1.off hb, t2, t3.off hb, t4, t5, t6, fun k hk => ⟨(t7 k hk).1.off hb, (t7 k hk).2⟩, t8⟩
theorem Pt.off {v : Value} {l : List Ent} {p : List (Option Nat)} (h : Pt w v l p) (hb : Off g w w') : Pt w' v l p := by
  obtain ⟨A, c, B, d, h1, h2, h3, h4, h5⟩ := h
  exact ⟨A, c, B, d, h1, h2, h3, h4.off hb, h5.off hb⟩
theorem Parts.off {h : Nat} {v : Value} {l : List Ent} {n m : Nat} {old : List Nat} (hp : Parts w h v l n old m) (hb : Off g w w') : Parts w' h v l n old m := by
  cases h with
  | zero => exact ⟨hp.1.off hb, hp.2⟩
  | succ h =>
    obtain ⟨ks, h1, h2, h3, h4⟩ := hp
    exact ⟨ks, h1.off hb, h2, fun k hk => ⟨(h3 k hk).1.off hb, (h3 k hk).2⟩, h4⟩
end
/-- What parts.replace answers: the kids with others in place of some. -/
def ReplPost (w : World) (h : Nat) (ks : List ST) (i j : Nat) (l2 : List Ent) (n2 : Nat) (old : List Nat) (q : Nat) (e : Ending) (w' : World) : Prop :=
  ∃ u ms, e = .returned u ∧ Pt w' u [] (ptrS (ks.take i ++ ms ++ ks.drop j)) ∧ ms.length = (if n2 ≤ most h then 1 else 2) ∧ (∀ k ∈ ms, Tr w' h k ∧ w.heap.size ≤ k.b ∧ (least h ≤ n2 → k.good = true)) ∧ flat ms = l2 ∧ FewNew old (q + 2) (idsOf ms) ∧ Below w.heap.size w w'

/-- Three lists of pointers side by side, as concat wants them. -/
theorem cells3 {w : World} {A B C : Option Addr} {c d e a b n : Nat} {l m r : List (Option Nat)} (t : TypeId) (hl : Ls pcP w A l) (hm : Ls pcP w B m) (hr : Ls pcP w C r) (ha : l.length = a) (hb : m.length = b) (hn : r.length = n) :
    ∀ j p, ([⟨A, c, l⟩, ⟨B, d, m⟩, ⟨C, e, r⟩] : List PartP)[j]? = some p → (w.alloc (.cells #[.slice A a c, .slice B b d, .slice C n e] t)).cell? ((⟨w.heap.size, 0, none⟩ : Addr).add j) = some (.slice p.A p.l.length p.c) ∧ Ls pcP (w.alloc (.cells #[.slice A a c, .slice B b d, .slice C n e] t)) p.A p.l := by
  have hb1 : Below w.heap.size w (w.alloc (.cells #[.slice A a c, .slice B b d, .slice C n e] t)) := (Below.refl _ _).alloc (Nat.le_refl _) _
  have hN := heap_alloc_new w (.cells #[.slice A a c, .slice B b d, .slice C n e] t)
  subst ha hb hn
  intro j p hp
  match j, hp with
  | 0, hp =>
    cases hp
    exact ⟨cell_at hN 0 _ rfl, hl.below hb1⟩
  | 1, hp =>
    cases hp
    exact ⟨cell_at hN 1 _ rfl, hm.below hb1⟩
  | 2, hp =>
    cases hp
    exact ⟨cell_at hN 2 _ rfl, hr.below hb1⟩
theorem OwnP.slice {w : World} {base : Nat} {v : Value} {l : List (Option Nat)} (h : OwnP w base v l) : ∃ A c, v = .slice A l.length c ∧ l.length ≤ c ∧ Ls pcP w A l ∧ ∀ ad, A = some ad → base ≤ ad.block := by
  obtain ⟨A, c, rfl, hc, hl⟩ := h.form
  exact ⟨A, c, rfl, hc, hl, fun ad e => (h.addr_ge ad e).1⟩

set_option maxHeartbeats 2000000 in
set_option maxRecDepth 100000 in
theorem replace_any {w : World} {h : Nat} {v v2 : Value} {ks : List ST} {l2 : List Ent} {n n2 q i j : Nat} {old : List Nat} (hp : Pt w v [] (ptrS ks)) (hn : ks.length = n) (hij : i ≤ j) (hj : j ≤ n) (hks : n ≤ 6)
    (hq : Parts w h v2 l2 n2 old q) (hf : fits h n2) (hh : h ≤ 100000) (hs : Sorted l2) (ho : ∀ e ∈ l2, okE e = true) :
    Calls Tryz.prog 94 #[v, .int .i64 (i : Int), .int .i64 (j : Int), v2] w (ReplPost w h ks i j l2 n2 old q) := by
  obtain ⟨A, c, B, d, rfl, hc, hd, he, hl⟩ := hp
  obtain ⟨A2, a2, c2, B2, b2, d2, rfl⟩ := hq.form
  rw [ptrS_len, hn] at hd ⊢
  simp only [List.length_nil] at hc ⊢
  have HQ := Lib.hid hq
  have HL := Lib.hid hl
  have HN := Lib.hid hn
  have HS := Lib.hid hs
  have HO := Lib.hid ho
  clear hq hl hn hs ho he
  go_enter Tryz.func94, Tryz.ntmps94
  obtain ⟨W, hW⟩ : ∃ W, W = (((w.alloc (.cells #[.slice A (0 : Nat) c, .slice B n d] 154)).alloc (.cells #[.slice A2 a2 c2, .slice B2 b2 d2] 154)).alloc (.cells #[.slice none 0 0, .slice none 0 0] 154)).drew := ⟨_, rfl⟩
  obtain ⟨hbW, k0, k1, k2, hsz⟩ := three_new w _ _ _ _ _ _ hW
  have q1 : ∀ z : Dc.Past [] W, z.val.cell? ⟨w.heap.size, 1, none⟩ = some (.slice B n d) := fun z => (z.ok.cell (by rw [hsz]; simp only; omega) (by simp)).trans (cell_at k0 1 _ rfl)
  have q2 : ∀ z : Dc.Past [] W, z.val.cell? ⟨w.heap.size + 1, 0, none⟩ = some (.slice A2 a2 c2) := fun z => (z.ok.cell (by rw [hsz]; simp only; omega) (by simp)).trans (cell_at k1 0 _ rfl)
  have q3 : ∀ z : Dc.Past [] W, z.val.cell? ⟨w.heap.size + 1, 1, none⟩ = some (.slice B2 b2 d2) := fun z => (z.ok.cell (by rw [hsz]; simp only; omega) (by simp)).trans (cell_at k1 1 _ rfl)
  have HW := Lib.hid hW
  have HBW := Lib.hid hbW
  have HSZ := Lib.hid hsz
  have HK2 := Lib.hid k2
  clear hW hbW k0 k1 k2 hsz
  go_wp2
  refine Dc.wp_region_segs 13 [] [([0, 1, 2, 3, 4, 6, 7, 8, 9], 5), ([], 10), ([], 11), ([12], 13)] [] (by kernel_rfl) (by kernel_rfl) (by kernel_rfl) (by kernel_rfl) (by kernel_rfl) (by intro c a d v w h; cases d <;> exact h) ?_
  rw [← HW.out]
  refine Dc.wpSegs_more ?_
  simp only [Dc.pick, List.getElem?_cons_zero, List.getElem?_cons_succ]
  repeat (first | go_big_quiet_step (fail) | quiet_step (fail))
  refine wpQuiet_nil ?_
  refine Dc.wpOp_heavy rfl (by rfl) (fun K hK => ?_)
  go_simp
  refine (nodes_any (HQ.out.below HBW.out) hf hh HS.out HO.out).mono ?_
  rintro e w1 ⟨u, rfl, hu, hb1⟩
  refine hK _ _ (fun _ => Dc.But.of_below hb1) ?_
  obtain ⟨ms, A3, c3, rfl, hc3, hl3, hm3, hk3, hf3, hw3⟩ := hu.older HBW.out.size
  have HL3 := Lib.hid hl3
  have HM3 := Lib.hid hm3
  have HK3 := Lib.hid hk3
  have HF3 := Lib.hid hf3
  have HW3 := Lib.hid hw3
  have HB1 := Lib.hid hb1
  clear hK K q1 q2 q3 hu hl3 hm3 hk3 hf3 hw3 hb1
  refine Dc.wpSegs_more ?_
  simp only [Dc.pick]
  refine wpQuiet_nil ?_
  refine Dc.wpOp_heavy rfl (by rfl) (fun K hK => ?_)
  go_simp
  have hbn : Below w1.heap.size w1 (w1.alloc (.cells #[.slice B i d, .slice A3 ms.length c3, .slice (if d = j then B else Option.map (fun x => x.add j) B) (n - j) (d - j)] 83)) := (Below.refl _ _).alloc (Nat.le_refl _) _
  refine hK _ _ (fun _ => Dc.But.of_below hbn) ?_
  clear hK K
  have hl1 := (HL.out.below HBW.out).below HB1.out
  have hcut := hl1.cut encP (k := j) (c := d) (by rw [ptrS_len, HN.out]; exact hd)
  simp only [Nat.mul_one] at hcut
  have hc3' := cells3 (c := d) (d := c3) (e := d - j) 83 (hl1.take_ i) HL3.out hcut (a := i) (b := ms.length) (n := n - j) (by rw [List.length_take, ptrS_len, HN.out]; omega) (ptrS_len _) (by rw [List.length_drop, ptrS_len, HN.out])
  have hpall : pallP [⟨B, d, (ptrS ks).take i⟩, ⟨A3, c3, ptrS ms⟩, ⟨if d = j then B else Option.map (fun x => x.add j) B, d - j, (ptrS ks).drop j⟩] = ptrS (ks.take i ++ ms ++ ks.drop j) := by
    rw [ptrS_append, ptrS_append, ptrS_take, ptrS_drop]
    simp [pallP]
  have hplen : (ptrS (ks.take i ++ ms ++ ks.drop j)).length ≤ 100 := by
    rw [ptrS_len, List.length_append, List.length_append, List.length_take, List.length_drop, HN.out, HM3.out]
    split <;> omega
  have HC3 := Lib.hid hc3'
  have HPA := Lib.hid hpall
  have HPL := Lib.hid hplen
  have HBN := Lib.hid hbn
  clear hl1 hcut hc3' hpall hplen hbn
  generalize (if d = j then B else Option.map (fun x => x.add j) B) = Bj at *
  obtain ⟨w2, hw2⟩ : ∃ w2, w2 = w1.alloc (.cells #[.slice B i d, .slice A3 ms.length c3, .slice Bj (n - j) (d - j)] 83) := ⟨_, rfl⟩
  have hlt2 : w1.heap.size < w2.heap.size := by rw [hw2]; simp
  rw [← hw2] at HBN HC3 ⊢
  clear hw2
  refine Dc.wpSegs_more ?_
  simp only [Dc.pick]
  refine wpQuiet_nil ?_
  refine Dc.wpOp_heavy rfl (by rfl) (fun K hK => ?_)
  go_simp
  refine (concatP_any ⟨w1.heap.size, 0, none⟩ 3 3 _ w2 hlt2 rfl HC3.out (by rw [HPA.out]; have := HPL.out; omega) (by omega)).mono ?_
  rintro e w3 ⟨v3, rfl, ho3, hb3⟩
  rw [HPA.out] at ho3
  obtain ⟨A4, c4, rfl, hc4, hl4, ha4⟩ := ho3.slice
  refine hK _ _ (fun _ => Dc.But.of_below hb3) ?_
  have hb02 := bthen HBW.out (bthen HB1.out HBN.out)
  have hbW3 := bthen HB1.out (bthen HBN.out hb3)
  have hblk : w3.heap[w.heap.size + 1 + 1]? = some (.cells #[.slice none 0 0, .slice none 0 0] 154 (0, 0)) := (hbW3.block _ (by rw [HSZ.out]; omega)).trans HK2.out
  have hs2 : w.heap.size + 3 ≤ w2.heap.size := by rw [← HSZ.out]; exact (bthen HB1.out HBN.out).size
  generalize hP : ptrS (ks.take i ++ ms ++ ks.drop j) = P at *
  have HP := Lib.hid hP
  have HL5 := Lib.hid (hl4.two (g := w.heap.size + 1 + 1) (fun ad e => by have := ha4 ad e; omega) (.slice none 0 0) (.slice A4 P.length c4))
  have HB5 := Lib.hid (two_below (bthen hb02 hb3) (g := w.heap.size + 1 + 1) (by omega) (.slice none 0 0) (.slice A4 P.length c4))
  have HOF := Lib.hid (Off.two hblk (.slice none 0 0) (.slice A4 P.length c4))
  have HB13 := Lib.hid (bthen HBN.out hb3)
  have HT := Lib.hid (set_two hblk (.slice none 0 0) (.slice A4 P.length c4))
  have hd0 := cell_at hblk 0 _ rfl
  have hd1 := cell_at hblk 1 _ rfl
  have hf0 := free_at hblk 0
  have hf1 := free_at hblk 1
  clear hK K hb02 hbW3 ho3 hl4 ha4 hb3 hblk hP hs2
  refine Dc.wpSegs_more ?_
  simp only [Dc.pick, List.getElem?_cons_zero, List.getElem?_cons_succ]
  repeat (first | go_big_quiet_step (fail) | quiet_step (fail))
  refine wpQuiet_nil ?_
  refine Dc.wpOp_heavy rfl (by rfl) (fun K hK => ?_)
  go_simp
  refine hK _ _ (fun h => absurd rfl h) ?_
  clear hK K
  refine Dc.wpSegs_last ?_
  simp only [Dc.pick]
  refine wpQuiet_nil ?_
  go_wp2
  refine bodyPost_ret (v := .agg #[.slice none 0 0, .slice A4 P.length c4]) ?_ rfl ⟨_, ms, rfl, ⟨none, 0, A4, c4, by rw [HP.out]; rfl, Nat.le_refl _, ?_, Es.nil _ _, ?_⟩, HM3.out, fun k hk => ⟨((HK3.out k hk).1.below HB13.out).off HOF.out, (HK3.out k hk).2⟩, HF3.out, HW3.out, HB5.out⟩
  · have k0 := cell_at HT.out 0 _ rfl
    have k1 := cell_at HT.out 1 _ rfl
    simp [results, Tryz.results94, go_sem, k0, k1]
  · rw [HP.out]
    exact hc4
  · rw [HP.out]
    exact HL5.out

end Go.Proofs.YtelenboncejdaaaGreatDoor

/-
  The contract of parts.join, whatever order is drawn; conditions: the parts can be read, few elements.
-/
namespace Go.Proofs.YtelenboncejdaaaGreatDoor
open Go.RowKit Go.Sort
set_option linter.unusedVariables false
set_option linter.unusedSimpArgs false

/-- What stands at parts.join. -/
structure JS where
  w : World
  w0 : World
  A1 : Option Addr
  n1 : Nat
  c1 : Nat
  B1 : Option Addr
  m1 : Nat
  d1 : Nat
  A2 : Option Addr
  n2 : Nat
  c2 : Nat
  B2 : Option Addr
  m2 : Nat
  d2 : Nat
  L : List Ent
  P : List (Option Nat)
def JS.g (x : JS) : Nat := x.w.heap.size + 1 + 1
def JS.u1 (x : JS) : Value := .slice x.A1 x.n1 x.c1
def JS.u2 (x : JS) : Value := .slice x.A2 x.n2 x.c2
def JS.v1 (x : JS) : Value := .slice x.B1 x.m1 x.d1
def JS.v2 (x : JS) : Value := .slice x.B2 x.m2 x.d2
def Duo (w0 : World) (u v : Value) (t : TypeId) (r : Value) (w : World) : Prop := ∃ k, r = .slice (some ⟨k, 0, none⟩) 2 2 ∧ w.heap[k]? = some (.cells #[u, v] t (0, 0)) ∧ w0.heap.size ≤ k
theorem Duo.below {w0 : World} {u v r : Value} {t : TypeId} {w w' : World} (h : Duo w0 u v t r w) (hb : Below w.heap.size w w') : Duo w0 u v t r w' := by
  obtain ⟨k, e, hk, hge⟩ := h
  exact ⟨k, e, (hb.block k (lt_of_block hk)).trans hk, hge⟩
theorem Duo.off {w0 : World} {u v r : Value} {t : TypeId} {w w' : World} {g : Nat} (h : Duo w0 u v t r w) (hb : Off g w w') (hg : g < w0.heap.size) : Duo w0 u v t r w' := by
  obtain ⟨k, e, hk, hge⟩ := h
  exact ⟨k, e, (hb.block k (lt_of_block hk) (by omega)).trans hk, hge⟩
theorem Duo.new {w0 w : World} (u v : Value) (t : TypeId) (hs : w0.heap.size ≤ w.heap.size) : Duo w0 u v t (.slice (some ⟨w.heap.size, 0, none⟩) 2 2) (w.alloc (.cells #[u, v] t)) := ⟨_, rfl, heap_alloc_new w _, hs⟩
def SlE (w : World) (v : Value) (l : List Ent) : Prop := ∃ A c, v = .slice A l.length c ∧ l.length ≤ c ∧ Es w A l
def SlP (w : World) (v : Value) (l : List (Option Nat)) : Prop := ∃ A c, v = .slice A l.length c ∧ l.length ≤ c ∧ Ls pcP w A l
def JS.last (x : JS) (w : World) : Prop := ∃ A a c B b d, Pt w (.agg #[.slice A a c, .slice B b d]) x.L x.P ∧ w.heap[x.g]? = some (.cells #[.slice A a c, .slice B b d] 154 (0, 0))
def JS.V (x : JS) : Nat → Value → World → Prop
  | 0, v, _ => v = .pointer (some ⟨x.w.heap.size, 0, none⟩)
  | 1, v, _ => v = x.u1
  | 2, v, _ => v = .pointer (some ⟨x.w.heap.size + 1, 0, none⟩)
  | 3, v, _ => v = x.u2
  | 4, v, w => Duo x.w0 x.u1 x.u2 22 v w
  | 5, v, w => SlE w v x.L
  | 6, v, _ => v = .pointer (some ⟨x.w.heap.size, 1, none⟩)
  | 7, v, _ => v = x.v1
  | 8, v, _ => v = .pointer (some ⟨x.w.heap.size + 1, 1, none⟩)
  | 9, v, _ => v = x.v2
  | 10, v, w => Duo x.w0 x.v1 x.v2 83 v w
  | 11, v, w => SlP w v x.P
  | 12, v, w => Pt w v x.L x.P
  | 13, _, w => x.last w
  | _, _, _ => True
structure JS.G (x : JS) (w : World) : Prop where
  below : Below x.w.heap.size x.w w
  size : x.w0.heap.size ≤ w.heap.size
  block : ∀ i, i < x.w0.heap.size → i ≠ x.g → w.heap[i]? = x.w0.heap[i]?
def JS.Bx (x : JS) (w : World) : Prop := w.heap[x.g]? = some (.cells #[.slice none 0 0, .slice none 0 0] 154 (0, 0))
def JS.N (x : JS) : Nat → World → Prop
  | 13, w => x.Bx w
  | _, _ => True
def JS.S (x : JS) (i : Nat) (w w' : World) : Prop := (i ≠ 13 ∧ Below w.heap.size w w') ∨ (i = 13 ∧ Off x.g w w' ∧ ∃ u v, w' = World.two w x.g u v)
def JS.D (x : JS) : Dx.Words := ⟨x.G, x.N, x.V, x.S⟩
theorem JS.quiet (x : JS) {i : Nat} (hi : i ≠ 13) (w : World) : x.S i w w := .inl ⟨hi, Below.refl _ _⟩
theorem JS.step (x : JS) {i : Nat} (hi : i ≠ 13) {w w' : World} (h : Below w.heap.size w w') : x.S i w w' := .inl ⟨hi, h⟩
theorem JS.ok (x : JS) (hg : x.g < x.w0.heap.size) (l : List Oper) : x.D.Ok l := by
  refine ⟨fun i w w' hG hS => ?_, fun i j w w' hij hG hN hS => ?_, fun i j u w w' hij hdd hG hV hS => ?_⟩
  · have hG : x.G w := hG
    rcases hS with ⟨_, hb⟩ | ⟨_, ho, u, v, rfl⟩
    · exact ⟨bthen hG.below hb, Nat.le_trans hG.size hb.size, fun k hk hne => (hb.block k (Nat.lt_of_lt_of_le hk hG.size)).trans (hG.block k hk hne)⟩
    · exact ⟨two_below hG.below (by unfold JS.g; omega) u v, by rw [two_size]; exact hG.size, fun k hk hne => (two_other w x.g u v k hne).trans (hG.block k hk hne)⟩
  · have hG : x.G w := hG
    by_cases h13 : i = 13
    · subst h13
      rcases hS with ⟨_, hb⟩ | ⟨hj, _⟩
      · exact (hb.block _ (Nat.lt_of_lt_of_le hg hG.size)).trans hN
      · exact absurd hj.symm hij
    · show x.N i w'
      unfold JS.N
      split
      · exact absurd rfl h13
      · trivial
  · have hG : x.G w := hG
    have hV : x.V i u w := hV
    show x.V i u w'
    rcases hS with ⟨_, hb⟩ | ⟨hj, ho, _⟩
    · match i, hV with
      | 0, hV => exact hV
      | 1, hV => exact hV
      | 2, hV => exact hV
      | 3, hV => exact hV
      | 4, hV => exact Duo.below hV hb
      | 5, ⟨A, c, h1, h2, h3⟩ => exact ⟨A, c, h1, h2, h3.below hb⟩
      | 6, hV => exact hV
      | 7, hV => exact hV
      | 8, hV => exact hV
      | 9, hV => exact hV
      | 10, hV => exact Duo.below hV hb
      | 11, ⟨A, c, h1, h2, h3⟩ => exact ⟨A, c, h1, h2, h3.below hb⟩
      | 12, hV => exact Pt.below hV hb
      | 13, ⟨A, a, c, B, b, d, h1, h2⟩ => exact ⟨A, a, c, B, b, d, h1.below hb, (hb.block _ (Nat.lt_of_lt_of_le hg hG.size)).trans h2⟩
      | i + 14, _ => trivial
    · have h13 : i ≠ 13 := fun e => hij (e.trans hj.symm)
      match i, h13, hV with
      | 0, _, hV => exact hV
      | 1, _, hV => exact hV
      | 2, _, hV => exact hV
      | 3, _, hV => exact hV
      | 4, _, hV => exact Duo.off hV ho hg
      | 5, _, ⟨A, c, h1, h2, h3⟩ => exact ⟨A, c, h1, h2, h3.off ho⟩
      | 6, _, hV => exact hV
      | 7, _, hV => exact hV
      | 8, _, hV => exact hV
      | 9, _, hV => exact hV
      | 10, _, hV => exact Duo.off hV ho hg
      | 11, _, ⟨A, c, h1, h2, h3⟩ => exact ⟨A, c, h1, h2, h3.off ho⟩
      | 12, _, hV => exact Pt.off hV ho
      | i + 14, _, _ => trivial
theorem cells2 {w : World} {g : Nat} {A B : Option Addr} {c d a b : Nat} {l m : List (Option Nat)} {t : TypeId} (h : w.heap[g]? = some (.cells #[.slice A a c, .slice B b d] t (0, 0))) (hl : Ls pcP w A l) (hm : Ls pcP w B m) (ha : l.length = a) (hb : m.length = b) :
    ∀ j p, ([⟨A, c, l⟩, ⟨B, d, m⟩] : List PartP)[j]? = some p → w.cell? ((⟨g, 0, none⟩ : Addr).add j) = some (.slice p.A p.l.length p.c) ∧ Ls pcP w p.A p.l := by
  subst ha hb
  intro j p hp
  match j, hp with
  | 0, hp =>
    cases hp
    exact ⟨cell_at h 0 _ rfl, hl⟩
  | 1, hp =>
    cases hp
    exact ⟨cell_at h 1 _ rfl, hm⟩
theorem cells2E {w : World} {g : Nat} {A B : Option Addr} {c d a b : Nat} {l m : List Ent} {t : TypeId} (h : w.heap[g]? = some (.cells #[.slice A a c, .slice B b d] t (0, 0))) (hl : Es w A l) (hm : Es w B m) (ha : l.length = a) (hb : m.length = b) :
    ∀ j p, ([⟨A, c, l⟩, ⟨B, d, m⟩] : List Part)[j]? = some p → w.cell? ((⟨g, 0, none⟩ : Addr).add j) = some (.slice p.A p.l.length p.c) ∧ Es w p.A p.l := by
  subst ha hb
  intro j p hp
  match j, hp with
  | 0, hp =>
    cases hp
    exact ⟨cell_at h 0 _ rfl, hl⟩
  | 1, hp =>
    cases hp
    exact ⟨cell_at h 1 _ rfl, hm⟩

set_option maxHeartbeats 2000000 in
set_option maxRecDepth 100000 in
theorem join_pt {w : World} {v v' : Value} {l l' : List Ent} {p p' : List (Option Nat)} (h1 : Pt w v l p) (h2 : Pt w v' l' p') (hl : l.length + l'.length ≤ 1000) (hp : p.length + p'.length ≤ 1000) :
    Calls Tryz.prog 121 #[v, v'] w fun e w' => ∃ u, e = .returned u ∧ Pt w' u (l ++ l') (p ++ p') ∧ Below w.heap.size w w' := by
  obtain ⟨A1, c1, B1, d1, rfl, hc1, hd1, he1, hl1⟩ := h1
  obtain ⟨A2, c2, B2, d2, rfl, hc2, hd2, he2, hl2⟩ := h2
  obtain ⟨n1, hn1⟩ : ∃ n1, n1 = l.length := ⟨_, rfl⟩
  obtain ⟨n2, hn2⟩ : ∃ n2, n2 = l'.length := ⟨_, rfl⟩
  obtain ⟨m1, hm1⟩ : ∃ m1, m1 = p.length := ⟨_, rfl⟩
  obtain ⟨m2, hm2⟩ : ∃ m2, m2 = p'.length := ⟨_, rfl⟩
  rw [← hn1, ← hn2, ← hm1, ← hm2]
  obtain ⟨W, hW⟩ : ∃ W, W = (((w.alloc (.cells #[.slice A1 n1 c1, .slice B1 m1 d1] 154)).alloc (.cells #[.slice A2 n2 c2, .slice B2 m2 d2] 154)).alloc (.cells #[.slice none 0 0, .slice none 0 0] 154)).drew := ⟨_, rfl⟩
  obtain ⟨hbW, k0, k1, k2, hsz⟩ := three_new w _ _ _ _ _ _ hW
  obtain ⟨x, hx⟩ : ∃ x : JS, x = ⟨w, W, A1, n1, c1, B1, m1, d1, A2, n2, c2, B2, m2, d2, l ++ l', p ++ p'⟩ := ⟨_, rfl⟩
  have hxw : x.w = w := by rw [hx]
  have hx0 : x.w0 = W := by rw [hx]
  have hxg : x.g = w.heap.size + 1 + 1 := by rw [hx]; rfl
  have hxu1 : x.u1 = .slice A1 n1 c1 := by rw [hx]; rfl
  have hxu2 : x.u2 = .slice A2 n2 c2 := by rw [hx]; rfl
  have hxv1 : x.v1 = .slice B1 m1 d1 := by rw [hx]; rfl
  have hxv2 : x.v2 = .slice B2 m2 d2 := by rw [hx]; rfl
  have hxL : x.L = l ++ l' := by rw [hx]
  have hxP : x.P = p ++ p' := by rw [hx]
  have c00 : ∀ w', x.G w' → w'.cell? ⟨w.heap.size, 0, none⟩ = some (.slice A1 n1 c1) := fun w' hG => (World.cell?_of_block (w := W) (by rw [hG.block _ (by rw [hx0, hsz]; simp only; omega) (by rw [hxg]; simp only; omega), hx0])).trans (cell_at k0 0 _ rfl)
  have c01 : ∀ w', x.G w' → w'.cell? ⟨w.heap.size, 1, none⟩ = some (.slice B1 m1 d1) := fun w' hG => (World.cell?_of_block (w := W) (by rw [hG.block _ (by rw [hx0, hsz]; simp only; omega) (by rw [hxg]; simp only; omega), hx0])).trans (cell_at k0 1 _ rfl)
  have c10 : ∀ w', x.G w' → w'.cell? ⟨w.heap.size + 1, 0, none⟩ = some (.slice A2 n2 c2) := fun w' hG => (World.cell?_of_block (w := W) (by rw [hG.block _ (by rw [hx0, hsz]; simp only; omega) (by rw [hxg]; simp only; omega), hx0])).trans (cell_at k1 0 _ rfl)
  have c11 : ∀ w', x.G w' → w'.cell? ⟨w.heap.size + 1, 1, none⟩ = some (.slice B2 m2 d2) := fun w' hG => (World.cell?_of_block (w := W) (by rw [hG.block _ (by rw [hx0, hsz]; simp only; omega) (by rw [hxg]; simp only; omega), hx0])).trans (cell_at k1 1 _ rfl)
  have e1 : ∀ w', x.G w' → Es w' A1 l ∧ Es w' A2 l' ∧ Ls pcP w' B1 p ∧ Ls pcP w' B2 p' := fun w' hG => by
    have hb := hG.below
    rw [hxw] at hb
    exact ⟨he1.below hb, he2.below hb, hl1.below hb, hl2.below hb⟩
  have HG0 := Lib.hid (show x.G W from ⟨by rw [hxw]; exact hbW, by rw [hx0]; exact Nat.le_refl _, fun i _ _ => by rw [hx0]⟩)
  have HN0 := Lib.hid (show ∀ i, x.N i W from fun i => by
    unfold JS.N
    split
    · show W.heap[x.g]? = _
      rw [hxg]
      exact k2
    · trivial)
  have HGL := Lib.hid (show x.g < x.w0.heap.size by rw [hxg, hx0, hsz]; omega)
  have HW := Lib.hid hW
  have HE := Lib.hid e1
  have HXG := Lib.hid hxg
  have HXW := Lib.hid hxw
  have HXL := Lib.hid hxL
  have HXP := Lib.hid hxP
  have H1 := Lib.hid hn1
  have H2 := Lib.hid hn2
  have H3 := Lib.hid hm1
  have H4 := Lib.hid hm2
  have C00 := Lib.hid c00
  have C01 := Lib.hid c01
  have C10 := Lib.hid c10
  have C11 := Lib.hid c11
  have U1 := Lib.hid hxu1
  have U2 := Lib.hid hxu2
  have V1 := Lib.hid hxv1
  have V2 := Lib.hid hxv2
  clear hW hbW k0 k1 k2 hsz hx hxw hx0 hxg hxu1 hxu2 hxv1 hxv2 hxL hxP c00 c01 c10 c11 e1 hn1 hn2 hm1 hm2 he1 he2 hl1 hl2
  go_enter Tryz.func121, Tryz.ntmps121
  go_wp2
  refine Dx.wp_region_stores x.D (x.ok HGL.out _) (by kernel_rfl) (by kernel_rfl) (by kernel_rfl) (by kernel_rfl) (Dx.none_of (z := 13) (by kernel_rfl) fun _ _ h => h) (by rw [← HW.out]; exact HG0.out) (by rw [← HW.out]; exact HN0.out) ?_ ?_
  · refine ⟨?_, ?_, ?_, ?_, ?_, ?_, ?_, ?_, ?_, ?_, ?_, ?_, ?_, ?_, trivial⟩
    · refine Dx.step_val fun a' w' hG hs hd hN => ?_
      have h1 : a'.eval (.tmp 2) = .pointer (some ⟨w.heap.size, 0, none⟩) := hs 2 (by kernel_rfl)
      refine ⟨.pointer (some ⟨w.heap.size, 0, none⟩), w', ?_, x.quiet (by omega) w', by show _ = Value.pointer (some ⟨x.w.heap.size, 0, none⟩); rw [HXW.out]⟩
      clear hd hs hN hG
      simp only [execOp, h1]
      go_simp
    · refine Dx.step_val fun a' w' hG hs hd hN => ?_
      have h1 : a'.eval (.tmp 5) = .pointer (some ⟨x.w.heap.size, 0, none⟩) := hd 0 (by decide)
      rw [HXW.out] at h1
      have hc := C00.out w' hG
      refine ⟨.slice A1 n1 c1, w', ?_, x.quiet (by omega) w', U1.out.symm⟩
      clear hd hs hN hG
      simp only [execOp, h1]
      go_simp
    · refine Dx.step_val fun a' w' hG hs hd hN => ?_
      have h1 : a'.eval (.tmp 3) = .pointer (some ⟨w.heap.size + 1, 0, none⟩) := hs 3 (by kernel_rfl)
      refine ⟨.pointer (some ⟨w.heap.size + 1, 0, none⟩), w', ?_, x.quiet (by omega) w', by show _ = Value.pointer (some ⟨x.w.heap.size + 1, 0, none⟩); rw [HXW.out]⟩
      clear hd hs hN hG
      simp only [execOp, h1]
      go_simp
    · refine Dx.step_val fun a' w' hG hs hd hN => ?_
      have h1 : a'.eval (.tmp 7) = .pointer (some ⟨x.w.heap.size + 1, 0, none⟩) := hd 2 (by decide)
      rw [HXW.out] at h1
      have hc := C10.out w' hG
      refine ⟨.slice A2 n2 c2, w', ?_, x.quiet (by omega) w', U2.out.symm⟩
      clear hd hs hN hG
      simp only [execOp, h1]
      go_simp
    · refine Dx.step_val fun a' w' hG hs hd hN => ?_
      have h1 : a'.eval (.tmp 6) = x.u1 := hd 1 (by decide)
      have h2 : a'.eval (.tmp 8) = x.u2 := hd 3 (by decide)
      rw [U1.out] at h1
      rw [U2.out] at h2
      have hG : x.G w' := hG
      refine ⟨.slice (some ⟨w'.heap.size, 0, none⟩) 2 2, w'.alloc (.cells #[.slice A1 n1 c1, .slice A2 n2 c2] 22), ?_, x.step (by omega) ((Below.refl _ _).alloc (Nat.le_refl _) _), ?_⟩
      · clear hd hs hN hG
        simp only [execOp, List.map_toArray, List.map_cons, List.map_nil, h1, h2]
        go_simp
      · show Duo x.w0 x.u1 x.u2 _ _ _
        rw [U1.out, U2.out]
        exact Duo.new _ _ _ hG.size
    · refine Dx.step_any fun a' w' hG hs hd hN => ?_
      obtain ⟨k, hk1, hk2, hk3⟩ : Duo x.w0 x.u1 x.u2 22 (a'.eval (.tmp 9)) w' := hd 4 (by decide)
      rw [U1.out, U2.out] at hk2
      obtain ⟨q1, q2, _, _⟩ := HE.out w' hG
      have hpl : pall [⟨A1, c1, l⟩, ⟨A2, c2, l'⟩] = x.L := by rw [HXL.out]; simp [pall]
      refine Dv.wp_call rfl Tryz.func155 (by kernel_rfl) (by kernel_rfl) (show _ = #[.slice (some ⟨k, 0, none⟩) 2 2] by simp [hk1]) ((concatE_any ⟨k, 0, none⟩ 2 2 [⟨A1, c1, l⟩, ⟨A2, c2, l'⟩] w' (lt_of_block hk2) rfl (cells2E hk2 q1 q2 H1.out.symm H2.out.symm) (by simp [pall]; omega) (by omega)).mono ?_)
      rintro e w'' ⟨v5, rfl, ho, hb⟩
      rw [hpl] at ho
      exact ⟨_, rfl, _, rfl, x.step (by omega) hb, ho.form⟩
    · refine Dx.step_val fun a' w' hG hs hd hN => ?_
      have h1 : a'.eval (.tmp 2) = .pointer (some ⟨w.heap.size, 0, none⟩) := hs 2 (by kernel_rfl)
      refine ⟨.pointer (some ⟨w.heap.size, 1, none⟩), w', ?_, x.quiet (by omega) w', by show _ = Value.pointer (some ⟨x.w.heap.size, 1, none⟩); rw [HXW.out]⟩
      clear hd hs hN hG
      simp only [execOp, h1]
      go_simp
    · refine Dx.step_val fun a' w' hG hs hd hN => ?_
      have h1 : a'.eval (.tmp 11) = .pointer (some ⟨x.w.heap.size, 1, none⟩) := hd 6 (by decide)
      rw [HXW.out] at h1
      have hc := C01.out w' hG
      refine ⟨.slice B1 m1 d1, w', ?_, x.quiet (by omega) w', V1.out.symm⟩
      clear hd hs hN hG
      simp only [execOp, h1]
      go_simp
    · refine Dx.step_val fun a' w' hG hs hd hN => ?_
      have h1 : a'.eval (.tmp 3) = .pointer (some ⟨w.heap.size + 1, 0, none⟩) := hs 3 (by kernel_rfl)
      refine ⟨.pointer (some ⟨w.heap.size + 1, 1, none⟩), w', ?_, x.quiet (by omega) w', by show _ = Value.pointer (some ⟨x.w.heap.size + 1, 1, none⟩); rw [HXW.out]⟩
      clear hd hs hN hG
      simp only [execOp, h1]
      go_simp
    · refine Dx.step_val fun a' w' hG hs hd hN => ?_
      have h1 : a'.eval (.tmp 13) = .pointer (some ⟨x.w.heap.size + 1, 1, none⟩) := hd 8 (by decide)
      rw [HXW.out] at h1
      have hc := C11.out w' hG
      refine ⟨.slice B2 m2 d2, w', ?_, x.quiet (by omega) w', V2.out.symm⟩
      clear hd hs hN hG
      simp only [execOp, h1]
      go_simp
    · refine Dx.step_val fun a' w' hG hs hd hN => ?_
      have h1 : a'.eval (.tmp 12) = x.v1 := hd 7 (by decide)
      have h2 : a'.eval (.tmp 14) = x.v2 := hd 9 (by decide)
      rw [V1.out] at h1
      rw [V2.out] at h2
      have hG : x.G w' := hG
      refine ⟨.slice (some ⟨w'.heap.size, 0, none⟩) 2 2, w'.alloc (.cells #[.slice B1 m1 d1, .slice B2 m2 d2] 83), ?_, x.step (by omega) ((Below.refl _ _).alloc (Nat.le_refl _) _), ?_⟩
      · clear hd hs hN hG
        simp only [execOp, List.map_toArray, List.map_cons, List.map_nil, h1, h2]
        go_simp
      · show Duo x.w0 x.v1 x.v2 _ _ _
        rw [V1.out, V2.out]
        exact Duo.new _ _ _ hG.size
    · refine Dx.step_any fun a' w' hG hs hd hN => ?_
      obtain ⟨k, hk1, hk2, hk3⟩ : Duo x.w0 x.v1 x.v2 83 (a'.eval (.tmp 15)) w' := hd 10 (by decide)
      rw [V1.out, V2.out] at hk2
      obtain ⟨_, _, q1, q2⟩ := HE.out w' hG
      have hpl : pallP [⟨B1, d1, p⟩, ⟨B2, d2, p'⟩] = x.P := by rw [HXP.out]; simp [pallP]
      refine Dv.wp_call rfl Tryz.func128 (by kernel_rfl) (by kernel_rfl) (show _ = #[.slice (some ⟨k, 0, none⟩) 2 2] by simp [hk1]) ((concatP_any ⟨k, 0, none⟩ 2 2 [⟨B1, d1, p⟩, ⟨B2, d2, p'⟩] w' (lt_of_block hk2) rfl (cells2 hk2 q1 q2 H3.out.symm H4.out.symm) (by simp [pallP]; omega) (by omega)).mono ?_)
      rintro e w'' ⟨v5, rfl, ho, hb⟩
      rw [hpl] at ho
      exact ⟨_, rfl, _, rfl, x.step (by omega) hb, ho.form⟩
    · refine Dx.step_val fun a' w' hG hs hd hN => ?_
      obtain ⟨A, c, h1, k1, k2⟩ : SlE w' (a'.eval (.tmp 10)) x.L := hd 5 (by decide)
      obtain ⟨B, d, h2, k3, k4⟩ : SlP w' (a'.eval (.tmp 16)) x.P := hd 11 (by decide)
      refine ⟨.agg #[.slice A x.L.length c, .slice B x.P.length d], w', ?_, x.quiet (by omega) w', ⟨A, c, B, d, rfl, k1, k3, k2, k4⟩⟩
      clear hd hs hN hG
      simp only [execOp, List.map_toArray, List.map_cons, List.map_nil, h1, h2]
      go_simp
    · refine Dx.step_skip fun a' w' hG hs hd hN => ?_
      have h1 : a'.eval (.tmp 4) = .pointer (some ⟨w.heap.size + 1 + 1, 0, none⟩) := hs 4 (by kernel_rfl)
      have hpt : Pt w' (a'.eval (.tmp 17)) x.L x.P := hd 12 (by decide)
      have hpt' := hpt
      obtain ⟨A, c, B, d, h2, k1, k2, k3, k4⟩ := hpt
      have hbx : w'.heap[x.g]? = some (.cells #[.slice none 0 0, .slice none 0 0] 154 (0, 0)) := hN
      have hof := Off.two hbx (.slice A x.L.length c) (.slice B x.P.length d)
      refine ⟨World.two w' x.g (.slice A x.L.length c) (.slice B x.P.length d), ?_, .inr ⟨rfl, hof, _, _, rfl⟩, ⟨A, _, c, B, _, d, ?_, set_two hbx _ _⟩⟩
      · rw [HXG.out] at hbx ⊢
        have hd0 := cell_at hbx 0 _ rfl
        have hd1 := cell_at hbx 1 _ rfl
        have hf0 := free_at hbx 0
        have hf1 := free_at hbx 1
        clear hd hs hN hG hbx hof hpt'
        simp only [execOp, h1, h2]
        go_simp
      · rw [h2] at hpt'
        exact hpt'.off hof
  · intro f wf hG hf
    have hG : x.G wf := hG
    obtain ⟨A, a, c, B, b, d, hpt, hbx⟩ : x.last wf := hf 13 (by decide)
    rw [HXL.out, HXP.out] at hpt
    rw [HXG.out] at hbx
    have hb := hG.below
    rw [HXW.out] at hb
    have HT := Lib.hid hbx
    have HP := Lib.hid hpt
    have HB := Lib.hid hb
    clear hf hG hpt hbx hb
    simp only [Dv.putAll, Nat.zero_add, Nat.reduceAdd]
    generalize f 0 = f0
    generalize f 1 = f1
    generalize f 2 = f2
    generalize f 3 = f3
    generalize f 4 = f4
    generalize f 5 = f5
    generalize f 6 = f6
    generalize f 7 = f7
    generalize f 8 = f8
    generalize f 9 = f9
    generalize f 10 = f10
    generalize f 11 = f11
    generalize f 12 = f12
    generalize f 13 = f13
    go_wp2
    refine bodyPost_ret (v := .agg #[.slice A a c, .slice B b d]) ?_ rfl ⟨_, rfl, HP.out, HB.out⟩
    have k0 := cell_at HT.out 0 _ rfl
    have k1 := cell_at HT.out 1 _ rfl
    simp [results, Tryz.results121, go_sem, k0, k1]

end Go.Proofs.YtelenboncejdaaaGreatDoor

/-
  The contracts of tree.kidFor; conditions: the pointers can be read, the nodes lie in memory.
-/
namespace Go.Proofs.YtelenboncejdaaaGreatDoor
open Go.RowKit Go.Sort
set_option linter.unusedVariables false

/-- Half-way: the last one, so far, whose least key isn't above. -/
structure KidTo (L : List (Nat × NR)) (key : ByteArray) (k a : Nat) : Prop where
  lt : a < k ∨ a = 0
  le : a = 0 ∨ ∀ x, L[a]? = some x → ¬ kl key x.2.lo
  gt : ∀ j x, a < j → j < k → L[j]? = some x → kl key x.2.lo
theorem KidTo.done {L : List (Nat × NR)} {ks : List ST} {key : ByteArray} {a : Nat} (hL : L = nbs ks) (h1 : 1 ≤ ks.length) (h : KidTo L key ks.length a) : Kid ks key a := by
  subst hL
  refine ⟨?_, ?_, fun j k hj hk => ?_⟩
  · rcases h.lt with h | h <;> omega
  · rcases h.le with h | h
    · exact .inl h
    · exact .inr fun k hk => h _ (nbs_at hk)
  · exact h.gt j _ hj (List.getElem?_eq_some_iff.1 hk).1 (nbs_at hk)

set_option maxHeartbeats 1000000 in
set_option maxRecDepth 100000 in
theorem kidTo_any (A : Option Addr) (n c : Nat) (L : List (Nat × NR)) (key : ByteArray) (w : World) (hr : Ls pcP w A (ptrs L)) (hn : L.length = n) (hb : n ≤ 100000) (ha : All w L) :
    Calls Tryz.prog 93 #[.slice A n c, .string key] w fun e w' => ∃ a : Nat, e = .returned (.int .i64 (a : Int)) ∧ KidTo L key n a ∧ Below w.heap.size w w' := by
  have Hn := Lib.hid hn
  have HA := Lib.hid ha
  clear hn ha
  go_enter Tryz.func93, Tryz.ntmps93
  go_wp2
  go_loopw [5, 12] (fun s5 s12 wr => ∃ k a : Nat, k ≤ n ∧ s12 = .int .i64 k ∧ s5 = .int .i64 a ∧ Hid (KidTo L key k a) ∧ Below w.heap.size w wr) (fun _ s12 _ => n - (intOf s12).toNat)
  case atStart => exact ⟨0, 0, Nat.zero_le _, rfl, rfl, Lib.hid ⟨.inr rfl, .inl rfl, fun j x h1 h2 => absurd h2 (by omega)⟩, Below.refl _ _⟩
  case round =>
    obtain ⟨k, a, hk, rfl, rfl, HK, hbw⟩ := hrel
    by_cases hlt : k < n
    · obtain ⟨ad, x, rfl, hx, hl, q1⟩ := (hr.below hbw).node_at (i := k) (by rw [Hn.out]; exact hlt)
      have hN := (HA.out.at_ hx).below hbw
      have Hx := Lib.hid hx
      clear hx
      go_wp2_with fail
      refine (ends_any hN).mono ?_
      rintro e w1 ⟨rfl, nq, rfl⟩
      have HB := Lib.hid (below_drewN hbw nq)
      clear hbw hN q1
      have hlo := less_eq x.2.lo key
      have hsm := same_eq x.2.lo key
      by_cases hd : kl key x.2.lo
      · rw [decide_eq_false (kl_asymm hd)] at hlo
        rw [decide_eq_false (fun e : x.2.lo = key => kl_irrefl key (by rw [e] at hd; exact hd))] at hsm
        go_wp2
        refine ⟨⟨k + 1, a, by omega, by go_num, rfl, Lib.hid ⟨by have := HK.out.lt; omega, HK.out.le, fun j y h1 h2 hy => ?_⟩, HB.out⟩, by simp [intOf]; omega⟩
        rcases Nat.lt_or_ge j k with h3 | h3
        · exact HK.out.gt j y h1 h3 hy
        · obtain rfl : j = k := by omega
          rw [Hx.out] at hy
          cases hy
          exact hd
      · have fin : Hid (KidTo L key (k + 1) k) := Lib.hid ⟨.inl (Nat.lt_succ_self _), .inr fun y hy => by rw [Hx.out] at hy; cases hy; exact hd, fun j y h1 h2 _ => absurd h2 (by omega)⟩
        by_cases hk2 : kl x.2.lo key
        · rw [decide_eq_true hk2] at hlo
          go_wp2
          exact ⟨⟨k + 1, k, by omega, by go_num, rfl, fin, HB.out⟩, by simp [intOf]; omega⟩
        · rw [decide_eq_false hk2] at hlo
          rw [decide_eq_true (kl_tri hk2 hd)] at hsm
          go_wp2
          exact ⟨⟨k + 1, k, by omega, by go_num, rfl, fin, HB.out⟩, by simp [intOf]; omega⟩
    · have he : k = n := by omega
      subst he
      go_wp2
      go_ret
      exact ⟨a, rfl, HK.out, hbw⟩

theorem kidFor_any {w : World} {A : Option Addr} {n c : Nat} {ks : List ST} {key : ByteArray} (hr : Ls pcP w A (ptrS ks)) (hn : ks.length = n) (h1 : 1 ≤ n) (hb : n ≤ 100000) (ha : All w (nbs ks)) :
    Calls Tryz.prog 93 #[.slice A n c, .string key] w fun e w' => ∃ a : Nat, e = .returned (.int .i64 (a : Int)) ∧ Kid ks key a ∧ Below w.heap.size w w' := by
  refine (kidTo_any A n c (nbs ks) key w hr (by rw [nbs_len]; exact hn) hb ha).mono ?_
  rintro e w1 ⟨a, rfl, hk, hb1⟩
  rw [← hn] at hk h1
  exact ⟨a, rfl, hk.done rfl h1, hb1⟩

end Go.Proofs.YtelenboncejdaaaGreatDoor
