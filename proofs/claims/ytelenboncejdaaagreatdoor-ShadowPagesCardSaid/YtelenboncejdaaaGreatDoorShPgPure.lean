/-
  What is told to a set of pages, and to the reference's list, agree; what abides when a set of pages turns; conditions stand at each.
-/
import Derived.Test.YtelenboncejdaaaGreatDoorShToldN
namespace Go.Proofs.YtelenboncejdaaaGreatDoor
open Go.RowKit Go.Sort
set_option linter.unusedVariables false
set_option linter.unusedSimpArgs false

theorem addR_len (R : List PR) (b : Nat) (v : Value) (l : List Int) : (addR R b v l).length ≤ R.length + 1 := by
  induction R with
  | nil => simp [addR]
  | cons r R ih =>
    rw [addR]
    split
    · simp
    · simp only [List.length_cons]
      omega
theorem addR_keys (R : List PR) (b : Nat) (v : Value) (l : List Int) : (Mof (addR R b v l)).map (·.1) = (Mof R).map (·.1) ∨ (b ∉ (Mof R).map (·.1) ∧ (Mof (addR R b v l)).map (·.1) = (Mof R).map (·.1) ++ [b]) := by
  induction R with
  | nil => exact .inr ⟨by simp [Mof], by simp [Mof, addR]⟩
  | cons r R ih =>
    rw [addR]
    split
    · rename_i h
      exact .inl (by simp [Mof, h])
    · rename_i h
      rcases ih with ih | ⟨h1, h2⟩
      · exact .inl (by
          simp only [Mof, List.map_cons, List.cons.injEq, true_and] at ih ⊢
          exact ih)
      · refine .inr ⟨?_, ?_⟩
        · simp only [Mof, List.map_cons, List.mem_cons, not_or] at h1 ⊢
          exact ⟨fun e => h e.symm, h1⟩
        · simp only [Mof, List.map_cons, List.cons_append, List.cons.injEq, true_and] at h2 ⊢
          exact h2
theorem pgs_has {M : PM} {b : Nat} {x : Int} (h : x ∈ pgs M b) : ∃ y ∈ M, x ∈ y.2 := by
  induction M with
  | nil => simp [pgs] at h
  | cons y M ih =>
    rw [pgs_cons] at h
    split at h
    · exact ⟨y, List.mem_cons_self .., h⟩
    · obtain ⟨z, hz, hx⟩ := ih h
      exact ⟨z, List.mem_cons_of_mem _ hz, hx⟩
theorem findK_in {K : List KN} {r : Nat} {x : Int} (h : x ∈ findK K r) : ∃ y ∈ K, x ∈ y.l := by
  induction K with
  | nil => simp [findK] at h
  | cons y K ih =>
    rw [findK_cons] at h
    split at h
    · exact ⟨y, List.mem_cons_self .., h⟩
    · obtain ⟨z, hz, hx⟩ := ih h
      exact ⟨z, List.mem_cons_of_mem _ hz, hx⟩
theorem findK_of {K : List KN} (hn : (K.map (·.p)).Nodup) {k : KN} (hk : k ∈ K) {r : Nat} (hp : k.p = some r) : findK K r = k.l := by
  induction K with
  | nil => cases hk
  | cons y K ih =>
    rw [List.map_cons, List.nodup_cons] at hn
    rw [findK_cons]
    rcases List.mem_cons.1 hk with rfl | hk
    · rw [if_pos hp]
    · rw [if_neg fun e => hn.1 (List.mem_map.2 ⟨k, hk, hp.trans e.symm⟩)]
      exact ih hn.2 hk
/-- What is known of other nodes. -/
def lessK (K : List KN) (r : Nat) : List KN := K.filter fun x => x.p != some r
theorem lessK_snoc {K : List KN} {k : Nat} {x : KN} (h : K[k]? = some x) (r : Nat) : lessK (K.take (k + 1)) r = lessK (K.take k) r ++ (if x.p = some r then [] else [x]) := by
  rw [List.take_add_one, h]
  simp only [lessK, Option.toList_some, List.filter_append]
  by_cases hx : x.p = some r
  · simp [hx]
  · simp [hx]
theorem findK_told (K : List KN) (r : Nat) (A : Option Addr) (c : Nat) (l : List Int) (s : Nat) : findK (lessK K r ++ [⟨some r, A, c, l⟩]) s = if r = s then l else findK K s := by
  induction K with
  | nil =>
    simp only [lessK, List.filter_nil, List.nil_append, findK_cons, Option.some.injEq]
  | cons x K ih =>
    by_cases hx : x.p = some r
    · have e : lessK (x :: K) r = lessK K r := by simp [lessK, hx]
      rw [e, ih, findK_cons]
      by_cases hs : r = s
      · rw [if_pos hs, if_pos hs]
      · rw [if_neg hs, if_neg hs, if_neg (by rw [hx]; simpa using hs)]
    · have e : lessK (x :: K) r = x :: lessK K r := by simp [lessK, hx]
      rw [e, List.cons_append, findK_cons, findK_cons, ih]
      by_cases hs : r = s
      · subst hs
        rw [if_neg hx, if_pos rfl, if_pos rfl]
      · rw [if_neg hs, if_neg hs]
theorem lessK_len (K : List KN) (r : Nat) : (lessK K r).length ≤ K.length := List.length_filter_le _ _
theorem allK_iff (K : List KN) (x : Int) : x ∈ allK K ↔ ∃ y ∈ K, x ∈ y.l := by
  have h : ∀ (K : List KN) (o : List Int), x ∈ K.foldl (fun o x => insA o x.l) o ↔ x ∈ o ∨ ∃ y ∈ K, x ∈ y.l := by
    intro K
    induction K with
    | nil => intro o; simp
    | cons y K ih =>
      intro o
      rw [List.foldl_cons, ih, insA_mem]
      simp only [List.mem_cons, exists_eq_or_imp, or_assoc]
  rw [allK, h]
  simp
theorem allK_rising (K : List KN) : Rising (allK K) := by
  have h : ∀ (K : List KN) (o : List Int), Rising o → Rising (K.foldl (fun o x => insA o x.l) o) := by
    intro K
    induction K with
    | nil => intro o ho; exact ho
    | cons y K ih =>
      intro o ho
      rw [List.foldl_cons]
      exact ih _ (insA_rising y.l _ ho)
  exact h K [] List.Pairwise.nil
theorem allK_len {m : Nat} : ∀ (K : List KN), (∀ x ∈ K, x.l.length ≤ m) → (allK K).length ≤ m * K.length := by
  have h : ∀ (K : List KN) (o : List Int), (∀ x ∈ K, x.l.length ≤ m) → (K.foldl (fun o x => insA o x.l) o).length ≤ o.length + m * K.length := by
    intro K
    induction K with
    | nil => intro o _; simp
    | cons y K ih =>
      intro o hm
      rw [List.foldl_cons, List.length_cons, Nat.mul_add]
      have h1 := ih (insA o y.l) fun x hx => hm x (List.mem_cons_of_mem _ hx)
      have h2 := insA_len y.l o
      have h3 := hm y (List.mem_cons_self ..)
      omega
  intro K hm
  have := h K [] hm
  rw [List.length_nil, Nat.zero_add] at this
  exact this
theorem sumR_le {m : Nat} : ∀ (R : List PR), (∀ r ∈ R, r.l.length ≤ m) → ((Mof R).map (·.2.length)).sum ≤ m * R.length := by
  intro R
  induction R with
  | nil => intro _; simp [Mof]
  | cons r R ih =>
    intro hm
    have h1 := ih fun x hx => hm x (List.mem_cons_of_mem _ hx)
    have h2 := hm r (List.mem_cons_self ..)
    simp only [Mof, List.map_cons, List.sum_cons, List.length_cons, Nat.mul_add] at h1 ⊢
    omega

/-- The set's pages and the reference's agree, of the nodes that were told. -/
structure Cor (R : List PR) (K : List KN) (q : List (Nat × Nat)) : Prop where
  nR : ((Mof R).map (·.1)).Nodup
  nK : (K.map (·.p)).Nodup
  inR : ∀ y ∈ Mof R, ∃ p ∈ q, p.1 = y.1
  inK : ∀ k ∈ K, ∃ p ∈ q, k.p = some p.2
  eq : ∀ p ∈ q, pgs (Mof R) p.1 = findK K p.2
theorem Cor.nil (q : List (Nat × Nat)) : Cor [] [] q := ⟨by simp [Mof], by simp, by simp [Mof], by simp, fun p _ => rfl⟩
theorem Cor.step {R : List PR} {K : List KN} {q : List (Nat × Nat)} (h : Cor R K q) {b r : Nat} (hb : (b, r) ∈ q) (hi : ∀ p ∈ q, ∀ p' ∈ q, p.1 = p'.1 ↔ p.2 = p'.2) (v : Value) (A : Option Addr) (c : Nat) (l : List Int) :
    Cor (addR R b v l) (lessK K r ++ [⟨some r, A, c, l⟩]) q := by
  refine ⟨?_, ?_, ?_, ?_, ?_⟩
  · rcases addR_keys R b v l with h1 | ⟨h1, h2⟩
    · rw [h1]
      exact h.nR
    · rw [h2]
      exact List.nodup_append.2 ⟨h.nR, by simp, fun x hx y hy e => h1 (by
        rw [List.mem_singleton.1 hy] at e
        rw [← e]
        exact hx)⟩
  · rw [List.map_append]
    refine List.nodup_append.2 ⟨(List.Sublist.map _ List.filter_sublist).nodup h.nK, by simp, fun x hx y hy e => ?_⟩
    obtain ⟨k, hk, rfl⟩ := List.mem_map.1 hx
    have h2 := (List.mem_filter.1 hk).2
    simp only [List.map_cons, List.map_nil, List.mem_singleton] at hy
    rw [hy] at e
    rw [e] at h2
    simp at h2
  · intro y hy
    have hk : y.1 ∈ (Mof (addR R b v l)).map (·.1) := List.mem_map.2 ⟨y, hy, rfl⟩
    have hm : y.1 ∈ (Mof R).map (·.1) ∨ y.1 = b := by
      rcases addR_keys R b v l with h1 | ⟨_, h2⟩
      · rw [h1] at hk
        exact .inl hk
      · rw [h2] at hk
        simpa using hk
    rcases hm with hm | hm
    · obtain ⟨z, hz, e⟩ := List.mem_map.1 hm
      obtain ⟨p, hp, hp2⟩ := h.inR z hz
      exact ⟨p, hp, hp2.trans e⟩
    · exact ⟨_, hb, hm.symm⟩
  · intro k hk
    rcases List.mem_append.1 hk with hk | hk
    · exact h.inK k (List.mem_filter.1 hk).1
    · rw [List.mem_singleton.1 hk]
      exact ⟨_, hb, rfl⟩
  · intro p hp
    rw [pgs_addR, findK_told]
    by_cases e : b = p.1
    · rw [if_pos e, if_pos ((hi _ hb _ hp).1 e)]
    · rw [if_neg e, if_neg fun e2 => e ((hi _ hb _ hp).2 e2)]
      exact h.eq p hp
theorem Cor.all {R : List PR} {K : List KN} {q : List (Nat × Nat)} (h : Cor R K q) (x : Int) : (∃ y ∈ Mof R, x ∈ y.2) ↔ ∃ k ∈ K, x ∈ k.l := by
  constructor
  · rintro ⟨y, hy, hx⟩
    obtain ⟨p, hp, hp2⟩ := h.inR y hy
    have h1 := h.eq p hp
    have h2 : pgs (Mof R) p.1 = y.2 := pgs_mem h.nR (by rw [hp2]; exact hy)
    rw [← h2, h1] at hx
    exact findK_in hx
  · rintro ⟨k, hk, hx⟩
    obtain ⟨p, hp, hp2⟩ := h.inK k hk
    rw [← findK_of h.nK hk hp2, ← h.eq p hp] at hx
    exact pgs_has hx
theorem Cor.same {R : List PR} {K : List KN} {q : List (Nat × Nat)} (h : Cor R K q) {l : List Int} (hl : Rising l) (hm : ∀ x, x ∈ l ↔ ∃ y ∈ Mof R, x ∈ y.2) : l = allK K :=
  rising_ext hl (allK_rising K) fun x => by rw [hm, allK_iff]; exact h.all x

/-- What abides when blocks of one type alone turn. -/
def Pst (T : TypeId) (w w' : World) : Prop := w.heap.size ≤ w'.heap.size ∧ ∀ (q : Nat) (cs : Array Value) (t : TypeId), w.heap[q]? = some (.cells cs t (0, 0)) → t ≠ T → w'.heap[q]? = w.heap[q]?
theorem Pst.of_keep {T : TypeId} {F : Nat → Prop} {w w' : World} (h : Keep F w w') (hF : ∀ (i : Nat) (cs : Array Value) (t : TypeId), F i → w.heap[i]? = some (.cells cs t (0, 0)) → t = T) : Pst T w w' :=
  ⟨h.size, fun q cs t hq ht => h.block q (lt_of_block hq) fun hf => ht (hF q cs t hf hq)⟩
theorem Pst.of_below {T : TypeId} {w w' : World} (h : Below w.heap.size w w') : Pst T w w' := ⟨h.size, fun q cs t hq _ => h.block q (lt_of_block hq)⟩
theorem Pst.trans {T : TypeId} {a b c : World} (h : Pst T a b) (k : Pst T b c) : Pst T a c := ⟨Nat.le_trans h.1 k.1, fun q cs t hq ht => (k.2 q cs t ((h.2 q cs t hq ht).trans hq) ht).trans (h.2 q cs t hq ht)⟩
theorem Pst.of_grown {α : Type} {f : α → List Value} {k : Nat} {T : TypeId} {w w' : World} {base : Nat} {v : Value} {l : List α} (ho : OwnL f T k w base v l) (h : w.grownBy w' v.ownBlock) : Pst T w w' :=
  ⟨h.size, fun q cs t hq ht => h.block q (lt_of_block hq) fun e => by
    obtain ⟨cur, hcur⟩ := own_cells ho q e.symm
    rw [hq] at hcur
    cases hcur
    exact ht rfl⟩
theorem Pst.own {T : TypeId} {α : Type} {f : α → List Value} {k : Nat} {t : TypeId} {w w' : World} {base : Nat} {v : Value} {l : List α} (h : Pst T w w') (ho : OwnL f t k w base v l) (ht : t ≠ T) : OwnL f t k w' base v l :=
  ho.keep fun g hg _ => by
    obtain ⟨cur, hcur⟩ := own_cells ho g hg
    exact h.2 g cur t hcur ht
theorem Pst.node {T : TypeId} {w w' : World} {b : Nat} {N : NR} (h : Pst T w w') (hT : 103 ≠ T) (hb : NodeAt w b N) : NodeAt w' b N := (h.2 b _ _ hb hT).trans hb
theorem Pst.memo {T : TypeId} {w w' : World} {base sb : Nat} {v : Value} {l : List (Nat × Nat)} (h : Pst T w w') (h1 : 103 ≠ T) (h2 : 74 ≠ T) (h3 : 60 ≠ T) (h4 : 137 ≠ T) (hm : Memo w base sb v l) : Memo w' base sb v l :=
  ⟨(h.2 _ _ _ hm.box h3).trans hm.box, h.own hm.row h2, fun x hx => by
    obtain ⟨⟨N, hN⟩, u, y, hR⟩ := hm.nodes x hx
    exact ⟨⟨N, h.node h1 hN⟩, u, y, (h.2 _ _ _ hR h4).trans hR⟩⟩

end Go.Proofs.YtelenboncejdaaaGreatDoor
