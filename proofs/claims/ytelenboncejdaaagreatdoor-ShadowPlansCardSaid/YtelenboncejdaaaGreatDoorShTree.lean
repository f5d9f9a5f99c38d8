/-
  The nodes of a tree in memory in the order in which they are written: each behind its kids, each once; how many there are at most; conditions: the tree is valid.
-/
import Derived.Test.YtelenboncejdaaaGreatDoorShTake
namespace Go.Proofs.YtelenboncejdaaaGreatDoor
open Go.RowKit Go.Sort
set_option linter.unusedVariables false
set_option linter.unusedSimpArgs false

/-- A node in memory as a plan sees it. -/
structure PNAt' (w : World) (P : PN) (N : NR) : Prop where
  at_ : NodeAt w P.b N
  h : N.h = P.h + 1
  en : P.l.length = N.en
  es : Es w N.ea P.l
  kn : P.ks.length = N.kn
  ka : Ls pcP w N.ka (P.ks.map fun k => some k.2)
  lo : ∀ k ∈ P.ks, ∃ M, NodeAt w k.2 M ∧ M.lo = k.1
  kind : (P.h = 0 ∧ okLeaf P.l = true ∧ P.ks = []) ∨ (P.h ≠ 0 ∧ P.l = [] ∧ 2 ≤ P.ks.length ∧ P.ks.length ≤ 6 ∧ (P.ks.map fun k => (⟨k.1, ByteArray.empty⟩ : Ent)).Pairwise (fun a b => kl a.k b.k) ∧ ∀ k ∈ P.ks, keyNo k.1 = 0)
def PNAt (w : World) (P : PN) : Prop := ∃ N, PNAt' w P N
theorem PNAt'.below {w w' : World} {P : PN} {N : NR} (h : PNAt' w P N) (hb : Below w.heap.size w w') : PNAt' w' P N :=
  ⟨h.at_.below hb, h.h, h.en, h.es.below hb, h.kn, h.ka.below hb, fun k hk => by
    obtain ⟨M, h1, h2⟩ := h.lo k hk
    exact ⟨M, h1.below hb, h2⟩, h.kind⟩
theorem PNAt.below {w w' : World} {P : PN} (h : PNAt w P) (hb : Below w.heap.size w w') : PNAt w' P := by
  obtain ⟨N, h⟩ := h
  exact ⟨N, h.below hb⟩
theorem PNAt'.few {w : World} {P : PN} {N : NR} (h : PNAt' w P N) : N.en ≤ 6 ∧ N.kn ≤ 6 := by
  have h1 := h.en
  have h2 := h.kn
  rcases h.kind with ⟨_, hl, hk⟩ | ⟨_, hl, hk, hk2, _⟩
  · have := okLeaf_len hl
    rw [hk] at h2
    simp at h2
    omega
  · rw [hl] at h1
    simp at h1
    omega

theorem PNAt'.val {w : World} {P : PN} {N : NR} (h : PNAt' w P N) : ∀ e ∈ P.l, e.v.size ≤ 140737488351232 := fun e he => by
  rcases h.kind with ⟨_, hl, _⟩ | ⟨_, hl, _⟩
  · simp only [okLeaf, Bool.and_eq_true] at hl
    have := List.all_eq_true.1 hl.1.2 e he
    simp only [okE, Bool.and_eq_true, decide_eq_true_eq] at this
    have h2 := this.2
    unfold valNo at h2
    split at h2
    · cases h2
    · omega
  · rw [hl] at he
    cases he

/-- The kids of a branch, as a plan sees them. -/
def kidsP (ks : List ST) : List (ByteArray × Nat) := ks.map fun k => (k.N.lo, k.b)
/-- A tree's nodes, each behind its kids. -/
def Pr (w : World) : Nat → ST → List PN → Prop
  | 0, s, L => Tr w 0 s ∧ L = [⟨s.b, 0, s.l, []⟩]
  | h + 1, s, L => Tr w (h + 1) s ∧ ∃ (ks : List ST) (Q : List (List PN)), BranchR s.N (nbs ks) ∧ Ls pcP w s.N.ka (ptrS ks) ∧ 2 ≤ ks.length ∧ ks.length ≤ 6 ∧ (∀ k ∈ ks, Tr w h k ∧ k.good = true) ∧ s.l = flat ks ∧ s.ids = s.b :: idsOf ks ∧
      Q.length = ks.length ∧ (∀ (j : Nat) (k : ST) (M : List PN), ks[j]? = some k → Q[j]? = some M → Pr w h k M) ∧ L = Q.flatten ++ [⟨s.b, h + 1, [], kidsP ks⟩]
theorem Pr.tr {w : World} {h : Nat} {s : ST} {L : List PN} (hp : Pr w h s L) : Tr w h s := by
  cases h with
  | zero => exact hp.1
  | succ h => exact hp.1
theorem exists_list {α β : Type} (R : α → β → Prop) : ∀ l : List α, (∀ x ∈ l, ∃ y, R x y) → ∃ m : List β, m.length = l.length ∧ ∀ (j : Nat) (x : α) (y : β), l[j]? = some x → m[j]? = some y → R x y
  | [], _ => ⟨[], rfl, fun j x y h => by simp at h⟩
  | x :: l, h => by
    obtain ⟨y, hy⟩ := h x (List.mem_cons_self ..)
    obtain ⟨m, hm, hr⟩ := exists_list R l fun z hz => h z (List.mem_cons_of_mem _ hz)
    refine ⟨y :: m, by simp [hm], fun j a b ha hb => ?_⟩
    cases j with
    | zero =>
      simp at ha hb
      subst ha hb
      exact hy
    | succ j => exact hr j a b (by simpa using ha) (by simpa using hb)
theorem Tr.pr {w : World} : ∀ {h : Nat} {s : ST}, Tr w h s → ∃ L, Pr w h s L
  | 0, s, t => ⟨_, t, rfl⟩
  | h + 1, s, t => by
    obtain ⟨ks, t1, t2, t3, t4, t5, t6, t7, t8, t9⟩ := id t
    obtain ⟨Q, hq, hr⟩ := exists_list (fun k M => Pr w h k M) ks fun k hk => (t7 k hk).1.pr
    exact ⟨_, t, ks, Q, t2, t3, t4, t5, t7, t8, t9, hq, hr, rfl⟩
theorem Pr.below {w w' : World} : ∀ {h : Nat} {s : ST} {L : List PN}, Pr w h s L → Below w.heap.size w w' → Pr w' h s L
  | 0, s, L, ⟨t, e⟩, hb => ⟨t.below hb, e⟩
  | h + 1, s, L, ⟨t, ks, Q, t2, t3, t4, t5, t7, t8, t9, hq, hr, e⟩, hb =>
    ⟨t.below hb, ks, Q, t2, t3.below hb, t4, t5, fun k hk => ⟨(t7 k hk).1.below hb, (t7 k hk).2⟩, t8, t9, hq, fun j k M hk hM => (hr j k M hk hM).below hb, e⟩
theorem mem_flatten_at {α : Type} {Q : List (List α)} {P : α} (h : P ∈ Q.flatten) : ∃ (j : Nat) (M : List α), Q[j]? = some M ∧ P ∈ M := by
  obtain ⟨M, hM, hP⟩ := List.mem_flatten.1 h
  obtain ⟨j, hj⟩ := List.getElem?_of_mem hM
  exact ⟨j, M, hj, hP⟩
theorem lt_at {α β : Type} {l : List α} {m : List β} (h : m.length = l.length) {j : Nat} {x : β} (hx : m[j]? = some x) : ∃ y, l[j]? = some y :=
  ⟨l[j]'(by have := (List.getElem?_eq_some_iff.1 hx).1; omega), List.getElem?_eq_getElem _⟩
/-- Keys of kids rise. -/
theorem kidsP_sorted {w : World} {h : Nat} {ks : List ST} (hk : ∀ k ∈ ks, Tr w h k ∧ k.good = true) (hs : Sorted (flat ks)) : ((kidsP ks).map fun k => (⟨k.1, ByteArray.empty⟩ : Ent)).Pairwise (fun a b => kl a.k b.k) := by
  rw [List.pairwise_iff_getElem]
  intro i j hi hj hij
  simp only [kidsP, List.length_map] at hi hj
  simp only [kidsP, List.getElem_map]
  obtain ⟨e, he, e1⟩ := (hk ks[i] (List.getElem_mem _)).1.lo_mem
  obtain ⟨f, hf, f1⟩ := (hk ks[j] (List.getElem_mem _)).1.lo_mem
  rw [← e1, ← f1]
  exact flat_cross hs hij (List.getElem?_eq_getElem hi) (List.getElem?_eq_getElem hj) he hf
theorem kidsP_ok {w : World} {h : Nat} {ks : List ST} (hk : ∀ k ∈ ks, Tr w h k ∧ k.good = true) : ∀ k ∈ kidsP ks, keyNo k.1 = 0 := by
  intro k hx
  obtain ⟨s, hs, rfl⟩ := List.mem_map.1 hx
  obtain ⟨e, he, e1⟩ := (hk s hs).1.lo_mem
  have := (hk s hs).1.okE e he
  simp only [okE, Bool.and_eq_true, decide_eq_true_eq] at this
  rw [← e1]
  exact this.1
theorem Pr.at_ {w : World} : ∀ {h : Nat} {s : ST} {L : List PN}, Pr w h s L → ∀ P ∈ L, PNAt w P
  | 0, s, L, ⟨t, e⟩, P, hP => by
    rw [e] at hP
    rw [List.mem_singleton.1 hP]
    exact ⟨s.N, t.1, t.2.1.h, t.2.1.en.symm, t.2.2.1, by rw [t.2.1.kn]; rfl, Ls.nil _ _, (fun k hk => by cases hk), .inl ⟨rfl, t.2.2.2.1, rfl⟩⟩
  | h + 1, s, L, ⟨t, ks, Q, t2, t3, t4, t5, t7, t8, t9, hq, hr, e⟩, P, hP => by
    rw [e] at hP
    rcases List.mem_append.1 hP with hP | hP
    · obtain ⟨j, M, hj, hP⟩ := mem_flatten_at hP
      obtain ⟨k, hk⟩ := lt_at hq hj
      exact (hr j k M hk hj).at_ P hP
    · rw [List.mem_singleton.1 hP]
      refine ⟨s.N, t.at_, t.high, t2.en.symm, Es.nil _ _, ?_, ?_, fun k hk => ?_, .inr ⟨by simp, rfl, by simpa [kidsP] using t4, by simpa [kidsP] using t5, kidsP_sorted t7 (t8 ▸ t.sorted), kidsP_ok t7⟩⟩
      · rw [t2.kn, nbs_len]
        simp [kidsP]
      · have : (kidsP ks).map (fun k => some k.2) = ptrS ks := by simp [kidsP, ptrS, ptrs, nbs, Function.comp_def]
        rw [this]
        exact t3
      · obtain ⟨x, hx, rfl⟩ := List.mem_map.1 hk
        exact ⟨x.N, (t7 x hx).1.at_, rfl⟩
/-- The last one is the root. -/
theorem Pr.last {w : World} {h : Nat} {s : ST} {L : List PN} (hp : Pr w h s L) : ∃ L0 P, L = L0 ++ [P] ∧ P.b = s.b ∧ P.h = h := by
  cases h with
  | zero => exact ⟨[], ⟨s.b, 0, s.l, []⟩, hp.2, rfl, rfl⟩
  | succ h =>
    obtain ⟨t, ks, Q, _, _, _, _, _, _, _, _, _, e⟩ := hp
    exact ⟨_, _, e, rfl, rfl⟩
theorem Pr.ids {w : World} : ∀ {h : Nat} {s : ST} {L : List PN}, Pr w h s L → (∀ x, x ∈ L.map (·.b) ↔ x ∈ s.ids)
  | 0, s, L, ⟨t, e⟩ => by
    intro x
    rw [e, t.2.2.2.2]
    simp
  | h + 1, s, L, ⟨t, ks, Q, t2, t3, t4, t5, t7, t8, t9, hq, hr, e⟩ => by
    intro x
    rw [e, t9, List.map_append, List.mem_append, List.mem_cons]
    constructor
    · rintro (hx | hx)
      · obtain ⟨P, hP, rfl⟩ := List.mem_map.1 hx
        obtain ⟨j, M, hj, hP⟩ := mem_flatten_at hP
        obtain ⟨k, hk⟩ := lt_at hq hj
        exact .inr (List.mem_flatMap.2 ⟨k, List.mem_of_getElem? hk, ((hr j k M hk hj).ids P.b).1 (List.mem_map.2 ⟨P, hP, rfl⟩)⟩)
      · exact .inl (by simpa using hx)
    · rintro (hx | hx)
      · exact .inr (by simp [hx])
      · obtain ⟨k, hk, hx⟩ := List.mem_flatMap.1 hx
        obtain ⟨j, hj⟩ := List.getElem?_of_mem hk
        obtain ⟨M, hM⟩ := lt_at hq.symm hj
        obtain ⟨P, hP, rfl⟩ := List.mem_map.1 (((hr j k M hj hM).ids x).2 hx)
        exact .inl (List.mem_map.2 ⟨P, List.mem_flatten.2 ⟨M, List.mem_of_getElem? hM, hP⟩, rfl⟩)
/-- A block is one node's alone. -/
theorem PNAt.unique {w : World} {P Q : PN} (hp : PNAt w P) (hq : PNAt w Q) (h : P.b = Q.b) : P = Q := by
  obtain ⟨N, hp⟩ := hp
  obtain ⟨M, hq⟩ := hq
  have e : N.cells = M.cells := by
    have h1 : w.heap[P.b]? = some (.cells N.cells 103 (0, 0)) := hp.at_
    have h2 : w.heap[Q.b]? = some (.cells M.cells 103 (0, 0)) := hq.at_
    rw [h] at h1
    rw [h1] at h2
    simpa only [Option.some.injEq, Obj.cells.injEq, and_true] using h2
  have c0 := congrArg (·[0]?) e
  have c1 := congrArg (·[1]?) e
  have c2 := congrArg (·[2]?) e
  simp only [NR.cells, List.getElem?_toArray, List.getElem?_cons_zero, List.getElem?_cons_succ, Option.some.injEq, Value.slice.injEq, Value.int.injEq] at c0 c1 c2
  obtain ⟨a1, a2, a3⟩ := c0
  obtain ⟨b1, b2, b3⟩ := c1
  have hh : P.h = Q.h := by
    have h1 := hp.h
    have h2 := hq.h
    have := c2.2
    omega
  have hl : P.l = Q.l := by
    have n1 := hp.en
    have n2 := hq.en
    apply List.ext_getElem (by omega)
    intro i hi hj
    obtain ⟨ad, x, ea, hx, _, q0, q1⟩ := hp.es.at_ hi
    obtain ⟨ad', y, eb, hy, _, r0, r1⟩ := hq.es.at_ hj
    rw [a1, eb] at ea
    cases ea
    rw [q0] at r0
    rw [q1] at r1
    rw [List.getElem?_eq_getElem hi] at hx
    rw [List.getElem?_eq_getElem hj] at hy
    cases hx
    cases hy
    have e1 : P.l[i].k = Q.l[i].k := by simpa using r0
    have e2 : P.l[i].v = Q.l[i].v := by simpa using r1
    cases hpi : P.l[i]
    cases hqi : Q.l[i]
    rw [hpi, hqi] at e1 e2
    simp only at e1 e2
    rw [e1, e2]
  have hk : P.ks = Q.ks := by
    have n1 := hp.kn
    have n2 := hq.kn
    apply List.ext_getElem (by omega)
    intro i hi hj
    obtain ⟨ad, x, ea, hx, _, q0⟩ := hp.ka.ptr_at (i := i) (by simpa using hi)
    obtain ⟨ad', y, eb, hy, _, r0⟩ := hq.ka.ptr_at (i := i) (by simpa using hj)
    rw [b1, eb] at ea
    cases ea
    rw [q0] at r0
    rw [List.getElem?_map, List.getElem?_eq_getElem hi] at hx
    rw [List.getElem?_map, List.getElem?_eq_getElem hj] at hy
    cases hx
    cases hy
    have e2 : P.ks[i].2 = Q.ks[i].2 := by simpa [ptr] using r0
    obtain ⟨M1, m1, l1⟩ := hp.lo _ (List.getElem_mem hi)
    obtain ⟨M2, m2, l2⟩ := hq.lo _ (List.getElem_mem hj)
    rw [e2] at m1
    have h1 : w.heap[Q.ks[i].2]? = some (.cells M1.cells 103 (0, 0)) := m1
    have h2 : w.heap[Q.ks[i].2]? = some (.cells M2.cells 103 (0, 0)) := m2
    rw [h1] at h2
    simp only [Option.some.injEq, Obj.cells.injEq, and_true] at h2
    have c3 := congrArg (·[3]?) h2
    simp only [NR.cells, List.getElem?_toArray, List.getElem?_cons_zero, List.getElem?_cons_succ, Option.some.injEq, Value.string.injEq] at c3
    exact Prod.ext (by rw [← l1, ← l2, c3]) e2
  cases P
  cases Q
  simp only at h hh hl hk
  subst h hh hl hk
  rfl

end Go.Proofs.YtelenboncejdaaaGreatDoor
