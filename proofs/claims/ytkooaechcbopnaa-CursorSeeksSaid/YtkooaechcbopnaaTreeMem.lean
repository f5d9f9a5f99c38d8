/-
  Trees as they lie in memory: a subtree with its entries and its nodes' blocks, the kid for a key, what a node is made of; conditions stand at each.
-/
import Derived.Test.YtkooaechcbopnaaTreePure
import Derived.Test.YtkooaechcbopnaaTreeCat
namespace Go.Proofs.Ytkooaechcbopnaa
open Go.RowKit Go.Sort
set_option linter.unusedVariables false

/-- A subtree: its root's block, the root's box, its entries, the blocks of its nodes. -/
structure ST where
  b : Nat
  N : NR
  l : List Ent
  ids : List Nat
def nbs (ks : List ST) : List (Nat × NR) := ks.map fun k => (k.b, k.N)
def flat (ks : List ST) : List Ent := ks.flatMap (·.l)
def idsOf (ks : List ST) : List Nat := ks.flatMap (·.ids)
def ST.good (k : ST) : Bool := goodK k.N.kr
theorem nbs_len (ks : List ST) : (nbs ks).length = ks.length := by simp [nbs]
theorem nbs_at {ks : List ST} {i : Nat} {k : ST} (h : ks[i]? = some k) : (nbs ks)[i]? = some (k.b, k.N) := by simp [nbs, h]
theorem nbs_inv {ks : List ST} {i : Nat} {x : Nat × NR} (h : (nbs ks)[i]? = some x) : ∃ k, ks[i]? = some k ∧ x = (k.b, k.N) := by
  simp only [nbs, List.getElem?_map, Option.map_eq_some_iff] at h
  obtain ⟨k, hk, rfl⟩ := h
  exact ⟨k, hk, rfl⟩
theorem nbs_append (a b : List ST) : nbs (a ++ b) = nbs a ++ nbs b := by simp [nbs]
theorem ptrs_append (a b : List (Nat × NR)) : ptrs (a ++ b) = ptrs a ++ ptrs b := by simp [ptrs]
theorem flat_append (a b : List ST) : flat (a ++ b) = flat a ++ flat b := by simp [flat]
theorem idsOf_append (a b : List ST) : idsOf (a ++ b) = idsOf a ++ idsOf b := by simp [idsOf]
/-- Pointers to the roots. -/
def ptrS (ks : List ST) : List (Option Nat) := ptrs (nbs ks)
theorem ptrS_len (ks : List ST) : (ptrS ks).length = ks.length := by simp [ptrS, ptrs, nbs]
theorem ptrS_append (a b : List ST) : ptrS (a ++ b) = ptrS a ++ ptrS b := by simp [ptrS, nbs_append, ptrs_append]
theorem ptrS_take (a : List ST) (n : Nat) : ptrS (a.take n) = (ptrS a).take n := by simp [ptrS, nbs, ptrs, List.map_take]
theorem ptrS_drop (a : List ST) (n : Nat) : ptrS (a.drop n) = (ptrS a).drop n := by simp [ptrS, nbs, ptrs, List.map_drop]
theorem ptrS_at {ks : List ST} {i : Nat} {k : ST} (h : ks[i]? = some k) : (ptrS ks)[i]? = some (some k.b) := ptrs_at (nbs_at h)

/-- A valid tree in memory, by its level: a leaf is of level 0; its nodes below the root are sufficiently filled. -/
def Tr (w : World) : Nat → ST → Prop
  | 0, s => NodeAt w s.b s.N ∧ LeafR s.N s.l ∧ Es w s.N.ea s.l ∧ okLeaf s.l = true ∧ s.ids = [s.b]
  | h + 1, s => ∃ ks : List ST, NodeAt w s.b s.N ∧ BranchR s.N (nbs ks) ∧ Ls pcP w s.N.ka (ptrS ks) ∧ 2 ≤ ks.length ∧ ks.length ≤ 6 ∧ Sorted s.l ∧ (∀ k ∈ ks, Tr w h k ∧ k.good = true) ∧ s.l = flat ks ∧ s.ids = s.b :: idsOf ks
section
variable {w w' : World} {h : Nat} {s : ST}
theorem Tr.at_ (t : Tr w h s) : NodeAt w s.b s.N := by
  cases h with
  | zero => exact t.1
  | succ h => obtain ⟨ks, t, _⟩ := t; exact t
theorem Tr.below : ∀ {h : Nat} {s : ST}, Tr w h s → Below w.heap.size w w' → Tr w' h s
  | 0, s, t, hb => ⟨t.1.below hb, t.2.1, t.2.2.1.below hb, t.2.2.2⟩
  | h + 1, s, ⟨ks, t1, t2, t3, t4, t5, t6, t7, t8⟩, hb => ⟨ks, t1.below hb, t2, t3.below hb, t4, t5, t6, fun k hk => ⟨(t7 k hk).1.below hb, (t7 k hk).2⟩, t8⟩
theorem Tr.lt (t : Tr w h s) : s.b < w.heap.size := t.at_.lt
theorem Tr.sorted (t : Tr w h s) : Sorted s.l := by
  cases h with
  | zero => exact okLeaf_sorted t.2.2.2.1
  | succ h => obtain ⟨ks, _, _, _, _, _, t, _⟩ := t; exact t
theorem Tr.high : ∀ {h : Nat} {s : ST}, Tr w h s → s.N.h = h + 1
  | 0, s, t => t.2.1.h
  | h + 1, s, ⟨ks, t1, t2, t3, t4, t5, t6, t7, t8⟩ => by
    have hk : ks[0]? = some ks[0] := List.getElem?_eq_getElem (by omega)
    rw [t2.h _ (nbs_at hk), (t7 _ (List.mem_of_getElem? hk)).1.high]
theorem Tr.lk (t : Tr w h s) : s.N.lk = false := by
  cases h with
  | zero => exact t.2.1.lk
  | succ h =>
    obtain ⟨ks, t1, t2, t3, t4, t5, t6, t7, t8⟩ := t
    rw [t2.lk, show (krs (nbs ks)).all goodK = true from List.all_eq_true.2 fun x hx => ?_]
    · rfl
    · simp only [krs, nbs, List.map_map, List.mem_map, Function.comp] at hx
      obtain ⟨k, hk, rfl⟩ := hx
      exact (t7 k hk).2
theorem Tr.okE : ∀ {h : Nat} {s : ST}, Tr w h s → ∀ e ∈ s.l, okE e = true
  | 0, s, t => by
    have := t.2.2.2.1
    simp only [okLeaf, Bool.and_eq_true] at this
    exact List.all_eq_true.1 this.1.2
  | h + 1, s, ⟨ks, t1, t2, t3, t4, t5, t6, t7, t8, _⟩ => by
    intro e he
    rw [t8] at he
    obtain ⟨k, hk, he⟩ := List.mem_flatMap.1 he
    exact (t7 k hk).1.okE e he
theorem flat_len_ge {ks : List ST} {m : Nat} (hk : ∀ k ∈ ks, m ≤ k.l.length) : ks.length * m ≤ (flat ks).length := by
  induction ks with
  | nil => simp [flat]
  | cons k ks ih =>
    have h1 := hk k (List.mem_cons_self ..)
    have h2 := ih fun x hx => hk x (List.mem_cons_of_mem _ hx)
    rw [show flat (k :: ks) = k.l ++ flat ks from rfl, List.length_append, List.length_cons, Nat.add_mul]
    omega
theorem Tr.len : ∀ {h : Nat} {s : ST}, Tr w h s → h + 1 ≤ s.l.length
  | 0, s, t => (okLeaf_len t.2.2.2.1).1
  | h + 1, s, ⟨ks, t1, t2, t3, t4, t5, t6, t7, t8, _⟩ => by
    have h1 := flat_len_ge (ks := ks) (m := h + 1) fun k hk => (t7 k hk).1.len
    have h2 : 2 * (h + 1) ≤ ks.length * (h + 1) := Nat.mul_le_mul_right _ t4
    rw [t8]
    omega
theorem flat_len_mem {ks : List ST} {k : ST} (hk : k ∈ ks) : k.l.length ≤ (flat ks).length := by
  obtain ⟨a, b, rfl⟩ := List.append_of_mem hk
  rw [flat_append, List.length_append, show flat (k :: b) = k.l ++ flat b from rfl, List.length_append]
  omega
/-- How many entries, or kids, the root has. -/
def ST.size (s : ST) : Nat := s.N.en + s.N.kn
theorem Tr.size_le (t : Tr w h s) : 1 ≤ s.size ∧ s.size ≤ 6 ∧ s.N.en ≤ 6 ∧ s.N.kn ≤ 6 := by
  unfold ST.size
  cases h with
  | zero =>
    have := okLeaf_len t.2.2.2.1
    rw [t.2.1.en, t.2.1.kn]
    omega
  | succ h =>
    obtain ⟨ks, t1, t2, t3, t4, t5, t6, t7, t8⟩ := t
    rw [t2.en, t2.kn, nbs_len]
    omega
theorem Tr.good_iff (t : Tr w h s) : s.good = decide ((if h = 0 then 2 else 3) ≤ s.size) := by
  unfold ST.good goodK NR.kr ST.size
  simp only [t.lk, t.high, Bool.not_false, Bool.true_and]
  have : (if h + 1 = 1 then 2 else 3) = if h = 0 then 2 else 3 := by
    by_cases h0 : h = 0
    · rw [if_pos (by omega), if_pos h0]
    · rw [if_neg (by omega), if_neg h0]
  rw [this]
/-- The first and the last entry. -/
theorem Tr.first : ∀ {h : Nat} {s : ST}, Tr w h s → ∃ e r, s.l = e :: r ∧ s.N.lo = e.k
  | 0, s, t => by
    have h1 := (okLeaf_len t.2.2.2.1).1
    have h2 := t.2.1.lo
    cases hl : s.l with
    | nil => rw [hl] at h1; simp at h1
    | cons e r => exact ⟨e, r, rfl, h2 e (by rw [hl]; rfl)⟩
  | h + 1, s, ⟨ks, t1, t2, t3, t4, t5, t6, t7, t8, _⟩ => by
    cases ks with
    | nil => simp at t4
    | cons k ks =>
      obtain ⟨e, r, hl, he⟩ := (t7 k (List.mem_cons_self ..)).1.first
      refine ⟨e, r ++ flat ks, ?_, ?_⟩
      · rw [t8, show flat (k :: ks) = k.l ++ flat ks from rfl, hl]
        rfl
      · rw [t2.lo (k.b, k.N) rfl, ← he]
theorem Tr.last : ∀ {h : Nat} {s : ST}, Tr w h s → ∃ r e, s.l = r ++ [e] ∧ s.N.hi = e.k
  | 0, s, t => by
    have h1 := (okLeaf_len t.2.2.2.1).1
    have h2 := t.2.1.hi
    have hne : s.l ≠ [] := fun h => by rw [h] at h1; simp at h1
    refine ⟨s.l.dropLast, s.l.getLast hne, (List.dropLast_concat_getLast hne).symm, h2 _ ?_⟩
    rw [← List.getLast?_eq_getElem?, List.getLast?_eq_some_getLast hne]
  | h + 1, s, ⟨ks, t1, t2, t3, t4, t5, t6, t7, t8, _⟩ => by
    have hne : ks ≠ [] := fun h => by rw [h] at t4; simp at t4
    obtain ⟨a, k, rfl⟩ : ∃ a k, ks = a ++ [k] := ⟨_, _, (List.dropLast_concat_getLast hne).symm⟩
    obtain ⟨r, e, hl, he⟩ := (t7 k (by simp)).1.last
    refine ⟨flat a ++ r, e, ?_, ?_⟩
    · rw [t8, flat_append, show flat [k] = k.l ++ [] from rfl, hl]
      simp
    · rw [t2.hi (k.b, k.N) (by simp [nbs]), ← he]
theorem Tr.lo_le (t : Tr w h s) {e : Ent} (he : e ∈ s.l) : ¬ kl e.k s.N.lo := by
  obtain ⟨x, r, hl, hx⟩ := t.first
  have hs := t.sorted
  rw [hl] at he hs
  rw [hx]
  rcases List.mem_cons.1 he with rfl | he
  · exact kl_irrefl _
  · exact kl_asymm ((List.pairwise_cons.1 hs).1 e he)
theorem Tr.lo_mem (t : Tr w h s) : ∃ e ∈ s.l, e.k = s.N.lo := by
  obtain ⟨x, r, hl, hx⟩ := t.first
  exact ⟨x, by rw [hl]; exact List.mem_cons_self .., hx.symm⟩
theorem Tr.hi_mem (t : Tr w h s) : ∃ e ∈ s.l, e.k = s.N.hi := by
  obtain ⟨r, x, hl, hx⟩ := t.last
  exact ⟨x, by rw [hl]; simp, hx.symm⟩
theorem Tr.own (t : Tr w h s) : s.b ∈ s.ids := by
  cases h with
  | zero => rw [t.2.2.2.2]; simp
  | succ h => obtain ⟨ks, _, _, _, _, _, _, _, _, t⟩ := t; rw [t]; simp
end

/-- Keys rise from kid to kid. -/
theorem flat_cross {ks : List ST} (hs : Sorted (flat ks)) {i j : Nat} {a b : ST} (hij : i < j) (ha : ks[i]? = some a) (hb : ks[j]? = some b) {x y : Ent} (hx : x ∈ a.l) (hy : y ∈ b.l) : kl x.k y.k := by
  have hi := (List.getElem?_eq_some_iff.1 ha).1
  have e : ks = ks.take j ++ ks.drop j := (List.take_append_drop j ks).symm
  rw [e, flat_append] at hs
  refine (List.pairwise_append.1 hs).2.2 x (List.mem_flatMap.2 ⟨a, ?_, hx⟩) y (List.mem_flatMap.2 ⟨b, ?_, hy⟩)
  · exact List.mem_of_getElem? (i := i) (by rw [List.getElem?_take_of_lt hij]; exact ha)
  · exact List.mem_of_getElem? (i := 0) (by rw [List.getElem?_drop, Nat.add_zero]; exact hb)
theorem krs_ok {w : World} {h : Nat} {ks : List ST} (hk : ∀ k ∈ ks, Tr w h k ∧ k.good = true) (hs : Sorted (flat ks)) (h2 : 2 ≤ ks.length) (h6 : ks.length ≤ 6) : okBr (krs (nbs ks)) = true := by
  refine okBr_good (by rw [krs_len, nbs_len]; exact h2) (by rw [krs_len, nbs_len]; exact h6) fun j a b ha hb => ?_
  obtain ⟨x, hx, rfl⟩ := krs_inv ha
  obtain ⟨y, hy, rfl⟩ := krs_inv hb
  obtain ⟨p, hp, rfl⟩ := nbs_inv hx
  obtain ⟨q, hq, rfl⟩ := nbs_inv hy
  have tp := (hk p (List.mem_of_getElem? hp)).1
  have tq := (hk q (List.mem_of_getElem? hq)).1
  refine ⟨?_, ?_⟩
  · show p.N.h = q.N.h
    rw [tp.high, tq.high]
  · show kl p.N.hi q.N.lo
    obtain ⟨e, he, e1⟩ := tp.hi_mem
    obtain ⟨f, hf, f1⟩ := tq.lo_mem
    rw [← e1, ← f1]
    exact flat_cross hs (Nat.lt_succ_self j) hp hq he hf
theorem all_of {w : World} {h : Nat} {ks : List ST} (hk : ∀ k ∈ ks, Tr w h k ∧ k.good = true) : All w (nbs ks) := fun x hx => by
  simp only [nbs, List.mem_map] at hx
  obtain ⟨k, hk1, rfl⟩ := hx
  exact (hk k hk1).1.at_
theorem tame_of {w : World} {h : Nat} {ks : List ST} (hk : ∀ k ∈ ks, Tr w h k ∧ k.good = true) (hh : h ≤ 100000) : Tame (nbs ks) := fun x hx => by
  simp only [nbs, List.mem_map] at hx
  obtain ⟨k, hk1, rfl⟩ := hx
  have t := (hk k hk1).1
  have := t.size_le
  simp only [t.high]
  omega

/-- The kid for a key. -/
structure Kid (ks : List ST) (key : ByteArray) (i : Nat) : Prop where
  lt : i < ks.length
  le : i = 0 ∨ ∀ k, ks[i]? = some k → ¬ kl key k.N.lo
  gt : ∀ j k, i < j → ks[j]? = some k → kl key k.N.lo
theorem Kid.unique {ks : List ST} {key : ByteArray} {i j : Nat} (h : Kid ks key i) (k : Kid ks key j) : i = j := by
  have hi := List.getElem?_eq_getElem h.lt
  have hj := List.getElem?_eq_getElem k.lt
  rcases Nat.lt_trichotomy i j with hij | hij | hij
  · rcases k.le with h0 | hl
    · omega
    · exact absurd (h.gt j _ hij hj) (hl _ hj)
  · exact hij
  · rcases h.le with h0 | hl
    · omega
    · exact absurd (k.gt i _ hij hi) (hl _ hi)
theorem Kid.split {w : World} {h : Nat} {ks : List ST} {key : ByteArray} {i : Nat} (hi : Kid ks key i) (hk : ∀ k ∈ ks, Tr w h k ∧ k.good = true) (hs : Sorted (flat ks)) :
    ∃ k, ks[i]? = some k ∧ ks = ks.take i ++ [k] ++ ks.drop (i + 1) ∧ (∀ e ∈ flat (ks.take i), kl e.k key) ∧ (∀ e ∈ flat (ks.drop (i + 1)), kl key e.k) := by
  have hki := List.getElem?_eq_getElem hi.lt
  have hlt := hi.lt
  refine ⟨ks[i], hki, ?_, fun e he => ?_, fun e he => ?_⟩
  · rw [List.append_assoc, List.singleton_append, ← List.drop_eq_getElem_cons hi.lt, List.take_append_drop]
  · obtain ⟨a, ha, he⟩ := List.mem_flatMap.1 he
    obtain ⟨j, hj⟩ := List.getElem?_of_mem ha
    have hji : j < i := by
      have := (List.getElem?_eq_some_iff.1 hj).1
      rw [List.length_take] at this
      omega
    rw [List.getElem?_take_of_lt hji] at hj
    rcases hi.le with h0 | hl
    · omega
    · obtain ⟨f, hf, f1⟩ := (hk _ (List.mem_of_getElem? hki)).1.lo_mem
      have h1 := flat_cross hs hji hj hki he hf
      rw [f1] at h1
      exact kl_le_trans h1 (hl _ hki)
  · obtain ⟨a, ha, he⟩ := List.mem_flatMap.1 he
    obtain ⟨j, hj⟩ := List.getElem?_of_mem ha
    rw [List.getElem?_drop] at hj
    have h1 := hi.gt _ a (by omega) hj
    exact kl_le_trans h1 ((hk a (List.mem_of_getElem? hj)).1.lo_le he)

/-- Parts of a node as a value. -/
def Pt (w : World) (v : Value) (l : List Ent) (p : List (Option Nat)) : Prop :=
  ∃ A c B d, v = .agg #[.slice A l.length c, .slice B p.length d] ∧ l.length ≤ c ∧ p.length ≤ d ∧ Es w A l ∧ Ls pcP w B p
theorem Pt.below {w w' : World} {v : Value} {l : List Ent} {p : List (Option Nat)} (h : Pt w v l p) (hb : Below w.heap.size w w') : Pt w' v l p := by
  obtain ⟨A, c, B, d, h1, h2, h3, h4, h5⟩ := h
  exact ⟨A, c, B, d, h1, h2, h3, h4.below hb, h5.below hb⟩
/-- Parts of a node of a level: its entries, how many elements, whose nodes. -/
def Parts (w : World) : Nat → Value → List Ent → Nat → List Nat → Nat → Prop
  | 0, v, l, n, old, m => Pt w v l [] ∧ l.length = n
  | h + 1, v, l, n, old, m => ∃ ks : List ST, Pt w v [] (ptrS ks) ∧ ks.length = n ∧ (∀ k ∈ ks, Tr w h k ∧ k.good = true) ∧ flat ks = l ∧ FewNew old m (idsOf ks)
theorem Parts.below {w w' : World} {h : Nat} {v : Value} {l : List Ent} {n m : Nat} {old : List Nat} (hp : Parts w h v l n old m) (hb : Below w.heap.size w w') : Parts w' h v l n old m := by
  cases h with
  | zero => exact ⟨hp.1.below hb, hp.2⟩
  | succ h =>
    obtain ⟨ks, h1, h2, h3, h4⟩ := hp
    exact ⟨ks, h1.below hb, h2, fun k hk => ⟨(h3 k hk).1.below hb, (h3 k hk).2⟩, h4⟩
theorem Parts.more {w : World} {h : Nat} {v : Value} {l : List Ent} {n m m' : Nat} {old : List Nat} (hp : Parts w h v l n old m) (hb : m ≤ m') : Parts w h v l n old m' := by
  cases h with
  | zero => exact hp
  | succ h =>
    obtain ⟨ks, h1, h2, h3, h4, h5⟩ := hp
    exact ⟨ks, h1, h2, h3, h4, h5.more hb⟩
theorem Parts.wide {w : World} {h : Nat} {v : Value} {l : List Ent} {n m : Nat} {old old' : List Nat} (hp : Parts w h v l n old m) (hb : ∀ x ∈ old, x ∈ old') : Parts w h v l n old' m := by
  cases h with
  | zero => exact hp
  | succ h =>
    obtain ⟨ks, h1, h2, h3, h4, h5⟩ := hp
    exact ⟨ks, h1, h2, h3, h4, h5.wide hb⟩

end Go.Proofs.Ytkooaechcbopnaa
